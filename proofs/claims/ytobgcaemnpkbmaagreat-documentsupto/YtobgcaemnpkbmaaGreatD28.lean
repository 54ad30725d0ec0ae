/- Lia -/
import Derived.Test.YtobgcaemnpkbmaaGreatD06
namespace Go.Proofs.YtobgcaemnpkbmaaGreat
open Go.RowKit
def InsPost_attr (w : World) (v : Value) (n : Nat) (ys : List Value) (e : Ending) (w' : World) : Prop :=
  ∃ v', e = .returned v' ∧ w'.ownsRow 0 72 2 v' (n + 1) ys ∧ w.grownBy w' v.ownBlock ∧ (v'.ownBlock = v.ownBlock ∨ ∃ b, v'.ownBlock = some b ∧ w.heap.size ≤ b)
set_option maxHeartbeats 4000000 in
set_option maxRecDepth 100000 in
theorem insert_end_attr (v : Value) (n i vb : Nat) (xs u : List Value) (w : World) (hown : w.ownsRow 0 72 2 v n xs) (hi : i = n) (hn : n ≤ 1000000) (hu : u.length = 2) (hu1 : ∀ x ∈ u, x.oneCell' = true) (hvb : w.heap[vb]? = some (.cells u.toArray 72 (0, 0))) :
    Calls Tryz.prog 107 #[v, .int .i64 i, .slice (some ⟨vb, 0, none⟩) 1 1] w (InsPost_attr w v n (xs ++ u)) := by
  obtain ⟨i0, hi0, hz0, hz1, hz2⟩ := info_parts attrInfo'
  obtain ⟨ao, c, rfl⟩ := own_shape hown
  have hnc : n ≤ c := by
    rcases hown.2 with ⟨e, h⟩ | ⟨g', cap, cur, e, hb, hg, hnc, _⟩
    · omega
    · simp only [Value.slice.injEq] at e; obtain ⟨_, _, rfl⟩ := e; exact hnc
  have hcm : c ≤ 9223372036854775807 := by
    rcases hown.2 with ⟨e, h⟩ | ⟨g', cap, cur, e, hb, hg, _, hcm, _⟩
    · simp only [Value.slice.injEq] at e; omega
    · simp only [Value.slice.injEq] at e; obtain ⟨_, _, rfl⟩ := e; unfold maxLen at hcm; omega
  have hsrc : ∀ a, some (⟨vb, 0, none⟩ : Addr) = some a → ∀ j x, u[j]? = some x → w.cell? (a.add j) = some x := fun a e j x hx => by
    cases e
    rw [addr_add', Nat.zero_add]
    simp only [World.cell?, hvb]
    simpa using hx
  have HO := hide hown
  have HS := hide hsrc
  have HU := hide hu
  have HU1 := hide hu1
  subst hi
  clear hown hsrc hvb hu hu1
  cases ao with
  | none =>
    go_enter Tryz.func107, Tryz.ntmps107
    go_wp2_with (first | (at_builtin; refine wpList_app _ rfl _ _ 31 rfl 0 72 i0 _ 2 32 Tryz.underlying31 hi0 hz0 hz1 hz2 rfl (.slice none i c) i xs rfl (unhide HO) (some ⟨vb, 0, none⟩) 1 1 u rfl (by simp) (by rw [unhide HU]) (unhide HS) (unhide HU1) (by omega) (by omega) (Nat.zero_le _) ?_; intro q4 w4 ho4 hg4 _))
    all_goals (go_ret; exact ⟨q4, rfl, ho4.out, hg4.out.by, hg4.out.at.imp id fun e => ⟨_, e, Nat.le_refl _⟩⟩)
  | some ad =>
    obtain ⟨g, o, sp⟩ := ad
    go_enter Tryz.func107, Tryz.ntmps107
    go_wp2_with (first | (at_builtin; refine wpList_app _ rfl _ _ 31 rfl 0 72 i0 _ 2 32 Tryz.underlying31 hi0 hz0 hz1 hz2 rfl (.slice (some ⟨g, o, sp⟩) i c) i xs rfl (unhide HO) (some ⟨vb, 0, none⟩) 1 1 u rfl (by simp) (by rw [unhide HU]) (unhide HS) (unhide HU1) (by omega) (by omega) (Nat.zero_le _) ?_; intro q4 w4 ho4 hg4 _))
    all_goals (go_ret; exact ⟨q4, rfl, ho4.out, hg4.out.by, hg4.out.at.imp id fun e => ⟨_, e, Nat.le_refl _⟩⟩)
set_option maxHeartbeats 4000000 in
set_option maxRecDepth 100000 in
theorem insert_shift_attr (g n c i vb : Nat) (xs u : List Value) (w : World) (hown : w.ownsRow 0 72 2 (.slice (some ⟨g, 0, none⟩) n c) n xs) (hi : i < n) (hroom : n + 1 ≤ c) (h1 : ∀ x ∈ xs, x.oneCell' = true) (hu : u.length = 2) (hu1 : ∀ x ∈ u, x.oneCell' = true) (hvb : w.heap[vb]? = some (.cells u.toArray 72 (0, 0))) (hne : vb ≠ g) :
    Calls Tryz.prog 107 #[.slice (some ⟨g, 0, none⟩) n c, .int .i64 i, .slice (some ⟨vb, 0, none⟩) 1 1] w (InsPost_attr w (.slice (some ⟨g, 0, none⟩) n c) n (xs.take (i * 2) ++ u ++ xs.drop (i * 2))) := by
  obtain ⟨i0, hi0, hz0, hz1, hz2⟩ := info_parts attrInfo'
  obtain ⟨cur, hcur, hcs, hnc, hcm⟩ := own_plain hown
  have hc63 : c ≤ 9223372036854775807 := by unfold maxLen at hcm; omega
  have hxl := hown.1
  obtain ⟨ys, hyl, how2⟩ := own_more hown (m := n + 1) (by omega) hroom
  have hsz : (Tryz.prog.info? 72).map (·.size) = some 2 := by rw [hi0]; simp [hz1]
  have hvs : ∀ j x, u[j]? = some x → w.cell? ⟨vb, j, none⟩ = some x := fun j x hx => by
    simp only [World.cell?, hvb]
    simpa using hx
  have hov : ∀ lb cb, (callFunc 124 #[.slice (some ⟨vb, 0, none⟩) 1 1, .slice (some ⟨g, (i + 1) * 2, none⟩) lb cb]).run Tryz.prog w = .ok (.value (.bool false)) w := fun lb cb => by
    rw [run_callFunc_extern Tryz.func124 (by kernel_rfl) (by kernel_rfl) (by kernel_rfl) (e := Extern.SlicesOverlaps.overlaps #[31, 31] #[4]) (by kernel_rfl),
      Lib.run_overlaps_apart w 31 4 72 Tryz.underlying31 2 (fun w => Tryz.sizeOf72 w) ⟨vb, 0, none⟩ ⟨g, (i + 1) * 2, none⟩ 1 1 lb cb hne 72 72 u.toArray.size cur.size (by unfold World.shape?; rw [hvb]) (by unfold World.shape?; rw [hcur]) (by rw [hcs]; omega) (by simp [World.frozen?, hvb]) (by simp [World.frozen?, hvb])]
    rfl
  have hsp : ∀ j, j < (n + 1) * 2 → (w.cell? ⟨g, j, none⟩).isSome = true := fun j hj => by
    rw [how2.cellAt j hj, List.getElem?_eq_getElem (by rw [how2.1]; exact hj)]; rfl
  have hfz : ∀ j, w.frozen? ⟨g, j, none⟩ = false := fun j => hown.frozenAt j
  obtain ⟨tl, htl⟩ : ∃ tl, tl = xs.drop (i * 2) := ⟨_, rfl⟩
  have htll : tl.length = (n - i) * 2 := by rw [htl, List.length_drop, hxl]; omega
  have hmin1 : Nat.min (n + 1 - i) (n - i) = n - i := by show min _ _ = _; omega
  have hcp1 : ∀ ty dc sc, (Builtin.copy_ #[31, 31] ty #[.slice (some ⟨g, (i + 1) * 2, none⟩) (n - i) dc, .slice (some ⟨g, i * 2, none⟩) (n + 1 - i) sc]).run Tryz.prog w.drew = .ok (goInt ((n - i : Nat) : Int)) (w.drew.setCells g ((i + 1) * 2) tl) := fun ty dc sc => by
    have h := run_copy_cellsK (P := Tryz.prog) w.drew 31 31 ty 72 2 g ((i + 1) * 2) (n - i) dc ⟨g, i * 2, none⟩ (n + 1 - i) sc tl Tryz.underlying31 hsz (by rw [hmin1]; exact htll)
      (fun j x hx => by
        have hlt := (List.getElem?_eq_some_iff.1 hx).1
        rw [addr_add']
        show w.cell? _ = _
        rw [htl, List.getElem?_drop] at hx
        rw [hown.cellAt _ (by omega)]
        exact hx)
      (fun j hj => hsp _ (by omega)) (fun j _ => hfz _) (fun x hx => h1 x (by rw [htl] at hx; exact List.mem_of_mem_drop hx))
    rw [hmin1] at h
    exact h
  obtain ⟨W1, hW1⟩ : ∃ W1, W1 = w.drew.setCells g ((i + 1) * 2) tl := ⟨_, rfl⟩
  rw [← hW1] at hcp1
  have ho1 : W1.ownsRow 0 72 2 (.slice (some ⟨g, 0, none⟩) (n + 1) c) (n + 1) (layL (xs ++ ys) ((i + 1) * 2) tl) := by rw [hW1]; exact own_setCells tl ((i + 1) * 2) how2.drew
  have hg1 := setCells_grown g tl ((i + 1) * 2) w.drew
  rw [← hW1] at hg1
  have hl1 : (layL (xs ++ ys) ((i + 1) * 2) tl).length = (n + 1) * 2 := ho1.1
  have hmin2 : Nat.min 1 (n + 1 - i) = 1 := by show min _ _ = _; omega
  have hcp2 : ∀ (W : World), (∀ x, W.cell? x = W1.cell? x) → (∀ x, W.frozen? x = W1.frozen? x) → ∀ ty dc, (Builtin.copy_ #[31, 31] ty #[.slice (some ⟨g, i * 2, none⟩) (n + 1 - i) dc, .slice (some ⟨vb, 0, none⟩) 1 1]).run Tryz.prog W = .ok (goInt 1) (W.setCells g (i * 2) u) := fun W hWc hWf ty dc => by
    have h := run_copy_cellsK (P := Tryz.prog) W 31 31 ty 72 2 g (i * 2) (n + 1 - i) dc ⟨vb, 0, none⟩ 1 1 u Tryz.underlying31 hsz (by rw [hmin2, hu])
      (fun j x hx => by
        rw [addr_add', Nat.zero_add, hWc, hW1, World.cell?_setCells_out g _ _ _ _ (fun h _ => absurd h hne)]
        exact hvs j x hx)
      (fun j hj => by rw [hWc, ho1.cellAt _ (by omega), List.getElem?_eq_getElem (by rw [hl1]; omega)]; rfl) (fun j hj => by rw [hWf]; exact ho1.frozenAt _) hu1
    rw [hmin2] at h
    exact h
  have HO1 := hide ho1
  have HG1 := hide hg1
  have HX := hide hxl
  have HTl := hide htll
  have HT := hide htl
  have HU := hide hu
  have HYl := hide hyl
  have hb2 : ¬ (c = i + 1) := by omega
  have hb4 : ¬ (c = i) := by omega
  have hz2' : ¬ ((i : Int) = (n : Int)) := by omega
  have hw1 : IntKind.i64.wrap ((i : Int) + 1) = (i : Int) + 1 := by rw [IntKind.wrap_i64]; omega
  have hin : i ≤ n := by omega
  have htn : ((i : Int) + 1).toNat = i + 1 := by omega
  have hb3 : (i : Int) ≤ (n : Int) + 1 := by omega
  have hb1 : (0 : Int) ≤ (i : Int) + 1 := by omega
  have hroom' : ¬ ((c : Int) < (n : Int) + 1) := by omega
  clear hown how2 hsp hfz ho1 hg1 hl1 hcur hvs hxl htll htl hu hyl hW1 hcs
  go_enter Tryz.func107, Tryz.ntmps107
  go_wp2_with (simp only [hov])
  go_region_law (refine step_copy_runI rfl _ _ 31 31 rfl _ _ (by simp [Act.eval, Act.put]) (by simp [Act.eval, Act.put]) (hcp1 _ _ _) ?_)
  go_wp2_with (at_builtin; refine wpList_copy_runI _ rfl _ _ 31 31 rfl _ _ rfl rfl (hcp2 _ (fun _ => rfl) (fun _ => rfl) _ _) ?_)
  go_ret
  have ho2 := own_setCells u (i * 2) HO1.out
  have hg2 := setCells_grown g u (i * 2) W1
  have hx := HX.out
  have hy := HYl.out
  have hu := HU.out
  have htl := HTl.out
  refine ⟨.slice (some ⟨g, 0, none⟩) (n + 1) c, rfl, ?_, ⟨hg2.1.os.trans HG1.out.1.os, hg2.1.tape.trans (HG1.out.1.tape.trans rfl), hg2.1.output.trans HG1.out.1.output, ?_, fun b hb hn => (hg2.1.block b (by rw [HG1.out.2]; exact hb) hn).trans (HG1.out.1.block b hb hn)⟩, .inl rfl⟩
  · have e : layL (layL (xs ++ ys) ((i + 1) * 2) tl) (i * 2) u = xs.take (i * 2) ++ u ++ xs.drop (i * 2) := by
      have h := ins_list xs ys u (i * 2) 2 (by omega) hu (by omega)
      rw [← HT.out] at h ⊢
      rw [show i * 2 + 2 = (i + 1) * 2 by omega] at h
      exact h
    rw [e] at ho2
    exact ho2
  · rw [hg2.2, HG1.out.2]; exact Nat.le_refl _
set_option maxHeartbeats 4000000 in
set_option maxRecDepth 100000 in
theorem insert_grow_attr (g n c i vb : Nat) (xs u : List Value) (w : World) (hown : w.ownsRow 0 72 2 (.slice (some ⟨g, 0, none⟩) n c) n xs) (hi : i < n) (hroom : c < n + 1) (hbig : n ≤ 1000000) (h1 : ∀ x ∈ xs, x.oneCell' = true) (hu : u.length = 2) (hu1 : ∀ x ∈ u, x.oneCell' = true) (hvb : w.heap[vb]? = some (.cells u.toArray 72 (0, 0))) :
    Calls Tryz.prog 107 #[.slice (some ⟨g, 0, none⟩) n c, .int .i64 i, .slice (some ⟨vb, 0, none⟩) 1 1] w (InsPost_attr w (.slice (some ⟨g, 0, none⟩) n c) n (xs.take (i * 2) ++ u ++ xs.drop (i * 2))) := by
  obtain ⟨i0, hi0, hz0, hz1, hz2⟩ := info_parts attrInfo'
  obtain ⟨cur, hcur, hcs, hnc, hcm⟩ := own_plain hown
  have hxl := hown.1
  have hgw : g < w.heap.size := (Array.getElem?_eq_some_iff.1 hcur).1
  have hvw : vb < w.heap.size := (Array.getElem?_eq_some_iff.1 hvb).1
  have hsz : (Tryz.prog.info? 72).map (·.size) = some 2 := by rw [hi0]; simp [hz1]
  have hvs : ∀ j x, u[j]? = some x → w.cell? ⟨vb, j, none⟩ = some x := fun j x hx => by
    simp only [World.cell?, hvb]
    simpa using hx
  have hkk : (n : Int) + 1 - (i : Int) = ((n + 1 - i : Nat) : Int) := by omega
  have hik : i + (n + 1 - i) = n + 1 := by omega
  have hold : (Builtin.firstCells i0.size i (.slice (some ⟨g, 0, none⟩) i c)).run Tryz.prog w.drew = .ok (xs.take (i * 2)).toArray w.drew := by
    rw [hz1]
    exact run_firstCells_some w.drew 2 i ⟨g, 0, none⟩ i c (xs.take (i * 2)) (by rw [List.length_take]; omega) (fun j x hj => by
      rw [addr_add', Nat.zero_add]
      show w.cell? _ = _
      rw [List.getElem?_take] at hj
      split at hj
      · rw [hown.cellAt j (by omega)]; exact hj
      · cases hj)
  have hrz : ∀ ty, (Builtin.append_ #[31, 3] ty #[.slice (some ⟨g, 0, none⟩) i c, .int .i64 ((n : Int) + 1 - (i : Int))]).run Tryz.prog w =
      .ok (.slice (some ⟨w.heap.size, 0, none⟩) (n + 1) (grownCap w (n + 1) c 72)) (w.drew.alloc (.cells ((xs.take (i * 2)).toArray ++ Builtin.zeroCells ((.agg #[.string ⟨#[]⟩, .string ⟨#[]⟩]) : Value).cells (n + 1 - i) ++ Builtin.zeroCells ((.agg #[.string ⟨#[]⟩, .string ⟨#[]⟩]) : Value).cells (grownCap w (n + 1) c 72 - (n + 1))) 72)) := fun ty => by
    have h := Lib.run_append_grow_zeros w 31 3 ty 72 i0 _ .i64 .i64 Tryz.underlying31 Tryz.underlying3 hi0 hz0 (some ⟨g, 0, none⟩) i c (xs.take (i * 2)) hold (n + 1 - i) (by omega) (by omega) (by omega) (by omega) (by rw [hz2]; omega) (by rw [hz2, hik]; exact growslice_fits hroom (by omega))
    rw [hik] at h
    rw [hkk]
    exact h
  obtain ⟨G, hG⟩ : ∃ G, G = grownCap w (n + 1) c 72 := ⟨_, rfl⟩
  have hGn : n + 1 ≤ G := by rw [hG]; exact grownCap_ge w _ _ _
  have hGm : G ≤ maxLen := by rw [hG]; exact grownCap_le_maxLen w (n + 1) c 72 (by unfold maxLen; omega)
  have hG63 : G ≤ 9223372036854775807 := by unfold maxLen at hGm; omega
  obtain ⟨ROW, hROW⟩ : ∃ ROW : Array Value, ROW = (xs.take (i * 2)).toArray ++ Builtin.zeroCells ((.agg #[.string ⟨#[]⟩, .string ⟨#[]⟩]) : Value).cells (n + 1 - i) ++ Builtin.zeroCells ((.agg #[.string ⟨#[]⟩, .string ⟨#[]⟩]) : Value).cells (G - (n + 1)) := ⟨_, rfl⟩
  rw [← hG] at hrz
  rw [← hROW] at hrz
  have hzc : (((.agg #[.string ⟨#[]⟩, .string ⟨#[]⟩]) : Value).cells).size = 2 := rfl
  have hRl : ROW.size = G * 2 := by
    rw [hROW, Array.size_append, Array.size_append, size_zeroCells, size_zeroCells, hzc, List.size_toArray, List.length_take]
    omega
  have hRt : ROW.toList.take (i * 2) = xs.take (i * 2) := by
    rw [hROW, Array.toList_append, Array.toList_append, List.append_assoc, List.take_append_of_le_length (by simp; omega), List.toList_toArray, List.take_take, Nat.min_self]
  obtain ⟨W1, hW1⟩ : ∃ W1, W1 = w.drew.alloc (.cells ROW 72) := ⟨_, rfl⟩
  have how : W1.ownsRow 0 72 2 (.slice (some ⟨w.heap.size, 0, none⟩) (n + 1) G) (n + 1) (ROW.toList.take ((n + 1) * 2)) := by
    refine ⟨by rw [List.length_take, Array.length_toList]; omega, .inr ⟨w.heap.size, G, ROW, rfl, Nat.zero_le _, by rw [hW1]; exact heap_alloc_new w.drew _, hGn, hGm, hRl, rfl⟩⟩
  rw [← hW1] at hrz
  have hOld : ∀ b, b < w.heap.size → W1.heap[b]? = w.heap[b]? := fun b hb => by rw [hW1]; exact heap_alloc_old w.drew _ hb
  have hmin2 : Nat.min 1 (n + 1 - i) = 1 := by show min _ _ = _; omega
  have hrl : (ROW.toList.take ((n + 1) * 2)).length = (n + 1) * 2 := how.1
  have hcpA : ∀ (W : World), (∀ x, W.cell? x = W1.cell? x) → (∀ x, W.frozen? x = W1.frozen? x) → ∀ ty dc, (Builtin.copy_ #[31, 31] ty #[.slice (some ⟨w.heap.size, i * 2, none⟩) (n + 1 - i) dc, .slice (some ⟨vb, 0, none⟩) 1 1]).run Tryz.prog W = .ok (goInt 1) (W.setCells w.heap.size (i * 2) u) := fun W hWc hWf ty dc => by
    have h := run_copy_cellsK (P := Tryz.prog) W 31 31 ty 72 2 w.heap.size (i * 2) (n + 1 - i) dc ⟨vb, 0, none⟩ 1 1 u Tryz.underlying31 hsz (by rw [hmin2, hu])
      (fun j x hx => by
        rw [addr_add', Nat.zero_add, hWc, World.cell?_of_block (w := w) (a := ⟨vb, j, none⟩) (hOld vb hvw)]
        exact hvs j x hx)
      (fun j hj => by rw [hWc, how.cellAt _ (by omega), List.getElem?_eq_getElem (by rw [hrl]; omega)]; rfl) (fun j hj => by rw [hWf]; exact how.frozenAt _) hu1
    rw [hmin2] at h
    exact h
  obtain ⟨tl, htl⟩ : ∃ tl, tl = xs.drop (i * 2) := ⟨_, rfl⟩
  have htll : tl.length = (n - i) * 2 := by rw [htl, List.length_drop, hxl]; omega
  have how2 := own_setCells u (i * 2) how
  have hgN : g ≠ w.heap.size := by omega
  have hmin1 : Nat.min (n - i) (n - i) = n - i := by show min _ _ = _; omega
  have hcpB : ∀ (W : World), (∀ x, W.cell? x = (W1.setCells w.heap.size (i * 2) u).cell? x) → (∀ x, W.frozen? x = (W1.setCells w.heap.size (i * 2) u).frozen? x) → ∀ ty dc sc, (Builtin.copy_ #[31, 31] ty #[.slice (some ⟨w.heap.size, (i + 1) * 2, none⟩) (n - i) dc, .slice (some ⟨g, i * 2, none⟩) (n - i) sc]).run Tryz.prog W = .ok (goInt ((n - i : Nat) : Int)) (W.setCells w.heap.size ((i + 1) * 2) tl) := fun W hWc hWf ty dc sc => by
    have h := run_copy_cellsK (P := Tryz.prog) W 31 31 ty 72 2 w.heap.size ((i + 1) * 2) (n - i) dc ⟨g, i * 2, none⟩ (n - i) sc tl Tryz.underlying31 hsz (by rw [hmin1]; exact htll)
      (fun j x hx => by
        have hlt := (List.getElem?_eq_some_iff.1 hx).1
        rw [addr_add', hWc, World.cell?_setCells_out _ _ _ _ _ (fun h _ => absurd h hgN), World.cell?_of_block (w := w) (a := ⟨g, _, none⟩) (hOld g hgw)]
        rw [htl, List.getElem?_drop] at hx
        rw [hown.cellAt _ (by omega)]
        exact hx)
      (fun j hj => by rw [hWc, how2.cellAt _ (by omega), List.getElem?_eq_getElem (by rw [layL_length, hrl]; omega)]; rfl)
      (fun j hj => by rw [hWf]; exact how2.frozenAt _) (fun x hx => h1 x (by rw [htl] at hx; exact List.mem_of_mem_drop hx))
    rw [hmin1] at h
    exact h
  have hfin : ∀ W : World, W.heap = ((W1.setCells w.heap.size (i * 2) u).setCells w.heap.size ((i + 1) * 2) tl).heap → W.os = w.os ∧ W.tape = w.tape ∧ W.output = w.output → InsPost_attr w (.slice (some ⟨g, 0, none⟩) n c) n (xs.take (i * 2) ++ u ++ xs.drop (i * 2)) (.returned (.slice (some ⟨w.heap.size, 0, none⟩) (n + 1) G)) W := fun W hWh hWo => by
    have h3 := own_setCells tl ((i + 1) * 2) how2
    have h4 := setCells_grown w.heap.size tl ((i + 1) * 2) (W1.setCells w.heap.size (i * 2) u)
    have h5 := setCells_grown w.heap.size u (i * 2) W1
    have e : layL (layL (ROW.toList.take ((n + 1) * 2)) (i * 2) u) ((i + 1) * 2) tl = xs.take (i * 2) ++ u ++ xs.drop (i * 2) := by
      have ea : layL (ROW.toList.take ((n + 1) * 2)) (i * 2) u = xs.take (i * 2) ++ u ++ (ROW.toList.take ((n + 1) * 2)).drop (i * 2 + u.length) := by
        rw [layL_eq _ _ _ (by rw [hrl]; omega), List.take_take, Nat.min_eq_left (by omega)]
        
        rw [hRt]
      have hlen1 : (xs.take (i * 2) ++ u).length = (i + 1) * 2 := by rw [List.length_append, List.length_take, hu]; omega
      rw [layL_eq _ _ _ (by rw [layL_length, hrl]; omega), List.drop_of_length_le (by rw [layL_length, hrl]; omega), List.append_nil, ea]
      have := List.take_left (l₁ := xs.take (i * 2) ++ u) (l₂ := (ROW.toList.take ((n + 1) * 2)).drop (i * 2 + u.length))
      rw [hlen1] at this
      rw [this, htl]
      
    rw [e] at h3
    have hs1 : W1.heap.size = w.heap.size + 1 := by rw [hW1]; simp
    have hsw : W.heap.size = w.heap.size + 1 := by rw [hWh, h4.2, h5.2, hs1]
    refine ⟨_, rfl, own_heap h3 (fun b _ => by rw [hWh]), ⟨hWo.1, hWo.2.1, hWo.2.2, by omega, fun b hb _ => ?_⟩, .inr ⟨w.heap.size, rfl, Nat.le_refl _⟩⟩
    rw [hWh]
    exact (h4.1.block b (by rw [h5.2]; omega) (fun e => by have := Option.some.inj e; omega)).trans ((h5.1.block b (by omega) (fun e => by have := Option.some.inj e; omega)).trans (hOld b hb))
  have HF := hide hfin
  subst hW1
  have hE1 : ∀ x, ((w.alloc (.cells ROW 72)).drew).cell? x = (w.drew.alloc (.cells ROW 72)).cell? x := fun x => rfl
  have hE2 : ∀ x, ((w.alloc (.cells ROW 72)).drew).frozen? x = (w.drew.alloc (.cells ROW 72)).frozen? x := fun x => rfl
  have hF1 : ∀ x, (((w.alloc (.cells ROW 72)).drew.setCells w.heap.size (i * 2) u).drew).cell? x = ((w.drew.alloc (.cells ROW 72)).setCells w.heap.size (i * 2) u).cell? x := fun x => rfl
  have hF2 : ∀ x, (((w.alloc (.cells ROW 72)).drew.setCells w.heap.size (i * 2) u).drew).frozen? x = ((w.drew.alloc (.cells ROW 72)).setCells w.heap.size (i * 2) u).frozen? x := fun x => rfl
  have hz3 : (c : Int) < (n : Int) + 1 := by omega
  have hGi : ¬ (G = i) := by omega
  have hGim : ¬ (G = i + 1) := by omega
  have hci : ¬ (c = i) := by omega
  have hz2' : ¬ ((i : Int) = (n : Int)) := by omega
  have hw1 : IntKind.i64.wrap ((i : Int) + 1) = (i : Int) + 1 := by rw [IntKind.wrap_i64]; omega
  have hb1 : (0 : Int) ≤ (i : Int) + 1 := by omega
  have hin : i ≤ n := by omega
  have htn : ((i : Int) + 1).toNat = i + 1 := by omega
  have hb3 : (i : Int) ≤ (n : Int) := by omega
  clear hkk hik hold hROW hG hRl hown how how2 hfin hcur hvb hvs hxl htll htl hu hOld hRt hrl hcs
  go_enter Tryz.func107, Tryz.ntmps107
  go_wp2_with (first
    | (at_builtin; refine Lib.wpList_append_run _ rfl _ _ _ _ rfl _ _ rfl rfl _ _ (hrz _) ?_)
    | (at_builtin; refine wpList_copy_runI _ rfl _ _ 31 31 rfl _ _ rfl rfl (hcpA _ hE1 hE2 _ _) ?_)
    | (at_builtin; refine wpList_copy_runI _ rfl _ _ 31 31 rfl _ _ rfl rfl (hcpB _ (fun _ => rfl) (fun _ => rfl) _ _ _) ?_))
  go_region_law (refine step_copy_runI rfl _ _ 31 31 rfl (.slice (some ⟨w.heap.size, (i + 1) * 2, none⟩) (n - i) (G - (i + 1))) (.slice (some ⟨g, i * 2, none⟩) (n - i) (c - i)) (by simp [Act.eval, Act.put]) (by simp [Act.eval, Act.put]) (hcpB _ hF1 hF2 3 (G - (i + 1)) (c - i)) ?_)
  go_wp2
  go_ret
  have h1 := (setCells_grown w.heap.size tl ((i + 1) * 2) ((w.alloc (.cells ROW 72)).drew.setCells w.heap.size (i * 2) u).drew).1
  have h2 := (setCells_grown w.heap.size u (i * 2) (w.alloc (.cells ROW 72)).drew).1
  exact HF.out _ (by rw [heap_setCells_drew]; rfl) ⟨h1.os.trans h2.os, h1.tape.trans h2.tape, h1.output.trans h2.output⟩
theorem insert_attr (v : Value) (n i vb : Nat) (xs u : List Value) (w : World) (hown : w.ownsRow 0 72 2 v n xs) (hi : i ≤ n) (hn : n ≤ 1000000) (h1 : ∀ x ∈ xs, x.oneCell' = true) (hu : u.length = 2) (hu1 : ∀ x ∈ u, x.oneCell' = true) (hvb : w.heap[vb]? = some (.cells u.toArray 72 (0, 0))) (hne : v.ownBlock ≠ some vb) :
    Calls Tryz.prog 107 #[v, .int .i64 i, .slice (some ⟨vb, 0, none⟩) 1 1] w (InsPost_attr w v n (xs.take (i * 2) ++ u ++ xs.drop (i * 2))) := by
  have hxl := hown.1
  by_cases e : i = n
  · have e1 : xs.take (i * 2) ++ u ++ xs.drop (i * 2) = xs ++ u := by rw [List.take_of_length_le (by omega), List.drop_of_length_le (by omega), List.append_nil]
    rw [e1]
    exact insert_end_attr v n i vb xs u w hown e hn hu hu1 hvb
  · rcases hown.2 with ⟨_, h0⟩ | ⟨g, c, cur, rfl, _⟩
    · omega
    · by_cases hr : n + 1 ≤ c
      · exact insert_shift_attr g n c i vb xs u w hown (by omega) hr h1 hu hu1 hvb (fun e => hne (by rw [e]; rfl))
      · exact insert_grow_attr g n c i vb xs u w hown (by omega) (by omega) hn h1 hu hu1 hvb
end Go.Proofs.YtobgcaemnpkbmaaGreat
