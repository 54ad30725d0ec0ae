/- Lip Tkw Ldp -/
import Derived.Test.YtobgcaemnpkbmaaGreatD06
import Derived.Test.YtobgcaemnpkbmaaGreatD09
import Derived.Lib.SlicesDelete
namespace Go.Proofs.YtobgcaemnpkbmaaGreat
open Go.RowKit
def InsPost_ptr (w : World) (v : Value) (n : Nat) (ys : List Value) (e : Ending) (w' : World) : Prop :=
  ∃ v', e = .returned v' ∧ w'.ownsRow 0 112 1 v' (n + 1) ys ∧ w.grownBy w' v.ownBlock ∧ (v'.ownBlock = v.ownBlock ∨ ∃ b, v'.ownBlock = some b ∧ w.heap.size ≤ b)
set_option maxHeartbeats 4000000 in
set_option maxRecDepth 100000 in
theorem insert_end_ptr (v : Value) (n i vb : Nat) (xs u : List Value) (w : World) (hown : w.ownsRow 0 112 1 v n xs) (hi : i = n) (hn : n ≤ 1000000) (hu : u.length = 1) (hu1 : ∀ x ∈ u, x.oneCell' = true) (hvb : w.heap[vb]? = some (.cells u.toArray 112 (0, 0))) :
    Calls Tryz.prog 65 #[v, .int .i64 i, .slice (some ⟨vb, 0, none⟩) 1 1] w (InsPost_ptr w v n (xs ++ u)) := by
  obtain ⟨i0, hi0, hz0, hz1, hz2⟩ := info_parts nodePtrInfo
  obtain ⟨ao, c, rfl⟩ := own_shape hown
  have hnc : n ≤ c := by
    rcases hown.2 with ⟨e, h⟩ | ⟨g', cap, cur, e, hb, hg, hnc, _⟩
    · omega
    · simp only [Value.slice.injEq] at e; obtain ⟨_, _, rfl⟩ := e; exact hnc
  have hcm : c ≤ 9223372036854775807 := by
    rcases hown.2 with ⟨e, h⟩ | ⟨g', cap, cur, e, hb, hg, _, hcm, _⟩
    · simp only [Value.slice.injEq] at e; omega
    · simp only [Value.slice.injEq] at e; obtain ⟨_, _, rfl⟩ := e; unfold maxLen at hcm; omega
  have hsrc : ∀ a, some (⟨vb, 0, none⟩ : Addr) = some a → ∀ j x, u[j]? = some x → w.cell? (a.add j) = some x := fun a e j x hx => by
    cases e
    rw [addr_add', Nat.zero_add]
    simp only [World.cell?, hvb]
    simpa using hx
  have HO := hide hown
  have HS := hide hsrc
  have HU := hide hu
  have HU1 := hide hu1
  subst hi
  clear hown hsrc hvb hu hu1
  cases ao with
  | none =>
    go_enter Tryz.func65, Tryz.ntmps65
    go_wp2_with (first | (at_builtin; refine wpList_app _ rfl _ _ 136 rfl 0 112 i0 _ 1 8 Tryz.underlying136 hi0 hz0 hz1 hz2 rfl (.slice none i c) i xs rfl (unhide HO) (some ⟨vb, 0, none⟩) 1 1 u rfl (by simp) (by rw [unhide HU]) (unhide HS) (unhide HU1) (by omega) (by omega) (Nat.zero_le _) ?_; intro q4 w4 ho4 hg4 _))
    all_goals (go_ret; exact ⟨q4, rfl, ho4.out, hg4.out.by, hg4.out.at.imp id fun e => ⟨_, e, Nat.le_refl _⟩⟩)
  | some ad =>
    obtain ⟨g, o, sp⟩ := ad
    go_enter Tryz.func65, Tryz.ntmps65
    go_wp2_with (first | (at_builtin; refine wpList_app _ rfl _ _ 136 rfl 0 112 i0 _ 1 8 Tryz.underlying136 hi0 hz0 hz1 hz2 rfl (.slice (some ⟨g, o, sp⟩) i c) i xs rfl (unhide HO) (some ⟨vb, 0, none⟩) 1 1 u rfl (by simp) (by rw [unhide HU]) (unhide HS) (unhide HU1) (by omega) (by omega) (Nat.zero_le _) ?_; intro q4 w4 ho4 hg4 _))
    all_goals (go_ret; exact ⟨q4, rfl, ho4.out, hg4.out.by, hg4.out.at.imp id fun e => ⟨_, e, Nat.le_refl _⟩⟩)
set_option maxHeartbeats 4000000 in
set_option maxRecDepth 100000 in
theorem insert_shift_ptr (g n c i vb : Nat) (xs u : List Value) (w : World) (hown : w.ownsRow 0 112 1 (.slice (some ⟨g, 0, none⟩) n c) n xs) (hi : i < n) (hroom : n + 1 ≤ c) (h1 : ∀ x ∈ xs, x.oneCell' = true) (hu : u.length = 1) (hu1 : ∀ x ∈ u, x.oneCell' = true) (hvb : w.heap[vb]? = some (.cells u.toArray 112 (0, 0))) (hne : vb ≠ g) :
    Calls Tryz.prog 65 #[.slice (some ⟨g, 0, none⟩) n c, .int .i64 i, .slice (some ⟨vb, 0, none⟩) 1 1] w (InsPost_ptr w (.slice (some ⟨g, 0, none⟩) n c) n (xs.take (i * 1) ++ u ++ xs.drop (i * 1))) := by
  obtain ⟨i0, hi0, hz0, hz1, hz2⟩ := info_parts nodePtrInfo
  obtain ⟨cur, hcur, hcs, hnc, hcm⟩ := own_plain hown
  have hc63 : c ≤ 9223372036854775807 := by unfold maxLen at hcm; omega
  have hxl := hown.1
  obtain ⟨ys, hyl, how2⟩ := own_more hown (m := n + 1) (by omega) hroom
  have hsz : (Tryz.prog.info? 112).map (·.size) = some 1 := by rw [hi0]; simp [hz1]
  have hvs : ∀ j x, u[j]? = some x → w.cell? ⟨vb, j, none⟩ = some x := fun j x hx => by
    simp only [World.cell?, hvb]
    simpa using hx
  have hov : ∀ lb cb, (callFunc 82 #[.slice (some ⟨vb, 0, none⟩) 1 1, .slice (some ⟨g, i + 1, none⟩) lb cb]).run Tryz.prog w = .ok (.value (.bool false)) w := fun lb cb => by
    rw [run_callFunc_extern Tryz.func82 (by kernel_rfl) (by kernel_rfl) (by kernel_rfl) (e := Extern.SlicesOverlaps.overlaps #[136, 136] #[4]) (by kernel_rfl),
      Lib.run_overlaps_apart w 136 4 112 Tryz.underlying136 1 (fun w => Tryz.sizeOf112 w) ⟨vb, 0, none⟩ ⟨g, i + 1, none⟩ 1 1 lb cb hne 112 112 u.toArray.size cur.size (by unfold World.shape?; rw [hvb]) (by unfold World.shape?; rw [hcur]) (by rw [hcs]; omega) (by simp [World.frozen?, hvb]) (by simp [World.frozen?, hvb])]
    rfl
  have hsp : ∀ j, j < (n + 1) * 1 → (w.cell? ⟨g, j, none⟩).isSome = true := fun j hj => by
    rw [how2.cellAt j hj, List.getElem?_eq_getElem (by rw [how2.1]; exact hj)]; rfl
  have hfz : ∀ j, w.frozen? ⟨g, j, none⟩ = false := fun j => hown.frozenAt j
  obtain ⟨tl, htl⟩ : ∃ tl, tl = xs.drop (i * 1) := ⟨_, rfl⟩
  have htll : tl.length = (n - i) * 1 := by rw [htl, List.length_drop, hxl]; omega
  have hmin1 : Nat.min (n + 1 - i) (n - i) = n - i := by show min _ _ = _; omega
  have hcp1 : ∀ ty dc sc, (Builtin.copy_ #[136, 136] ty #[.slice (some ⟨g, i + 1, none⟩) (n - i) dc, .slice (some ⟨g, i, none⟩) (n + 1 - i) sc]).run Tryz.prog w.drew = .ok (goInt ((n - i : Nat) : Int)) (w.drew.setCells g (i + 1) tl) := fun ty dc sc => by
    have h := run_copy_cellsK (P := Tryz.prog) w.drew 136 136 ty 112 1 g (i + 1) (n - i) dc ⟨g, i, none⟩ (n + 1 - i) sc tl Tryz.underlying136 hsz (by rw [hmin1]; exact htll)
      (fun j x hx => by
        have hlt := (List.getElem?_eq_some_iff.1 hx).1
        rw [addr_add']
        show w.cell? _ = _
        rw [htl, List.getElem?_drop] at hx
        rw [hown.cellAt _ (by omega)]
        rw [Nat.mul_one] at hx; exact hx)
      (fun j hj => hsp _ (by omega)) (fun j _ => hfz _) (fun x hx => h1 x (by rw [htl] at hx; exact List.mem_of_mem_drop hx))
    rw [hmin1] at h
    exact h
  obtain ⟨W1, hW1⟩ : ∃ W1, W1 = w.drew.setCells g (i + 1) tl := ⟨_, rfl⟩
  rw [← hW1] at hcp1
  have ho1 : W1.ownsRow 0 112 1 (.slice (some ⟨g, 0, none⟩) (n + 1) c) (n + 1) (layL (xs ++ ys) (i + 1) tl) := by rw [hW1]; exact own_setCells tl (i + 1) how2.drew
  have hg1 := setCells_grown g tl (i + 1) w.drew
  rw [← hW1] at hg1
  have hl1 : (layL (xs ++ ys) (i + 1) tl).length = (n + 1) * 1 := ho1.1
  have hmin2 : Nat.min 1 (n + 1 - i) = 1 := by show min _ _ = _; omega
  have hcp2 : ∀ (W : World), (∀ x, W.cell? x = W1.cell? x) → (∀ x, W.frozen? x = W1.frozen? x) → ∀ ty dc, (Builtin.copy_ #[136, 136] ty #[.slice (some ⟨g, i, none⟩) (n + 1 - i) dc, .slice (some ⟨vb, 0, none⟩) 1 1]).run Tryz.prog W = .ok (goInt 1) (W.setCells g (i) u) := fun W hWc hWf ty dc => by
    have h := run_copy_cellsK (P := Tryz.prog) W 136 136 ty 112 1 g (i) (n + 1 - i) dc ⟨vb, 0, none⟩ 1 1 u Tryz.underlying136 hsz (by rw [hmin2, hu])
      (fun j x hx => by
        rw [addr_add', Nat.zero_add, hWc, hW1, World.cell?_setCells_out g _ _ _ _ (fun h _ => absurd h hne)]
        exact hvs j x hx)
      (fun j hj => by rw [hWc, ho1.cellAt _ (by omega), List.getElem?_eq_getElem (by rw [hl1]; omega)]; rfl) (fun j hj => by rw [hWf]; exact ho1.frozenAt _) hu1
    rw [hmin2] at h
    exact h
  have HO1 := hide ho1
  have HG1 := hide hg1
  have HX := hide hxl
  have HTl := hide htll
  have HT := hide htl
  have HU := hide hu
  have HYl := hide hyl
  have hb2 : ¬ (c = i + 1) := by omega
  have hb4 : ¬ (c = i) := by omega
  have hz2' : ¬ ((i : Int) = (n : Int)) := by omega
  have hw1 : IntKind.i64.wrap ((i : Int) + 1) = (i : Int) + 1 := by rw [IntKind.wrap_i64]; omega
  have hin : i ≤ n := by omega
  have htn : ((i : Int) + 1).toNat = i + 1 := by omega
  have hb3 : (i : Int) ≤ (n : Int) + 1 := by omega
  have hb1 : (0 : Int) ≤ (i : Int) + 1 := by omega
  have hroom' : ¬ ((c : Int) < (n : Int) + 1) := by omega
  clear hown how2 hsp hfz ho1 hg1 hl1 hcur hvs hxl htll htl hu hyl hW1 hcs
  go_enter Tryz.func65, Tryz.ntmps65
  go_wp2_with (simp only [hov])
  go_region_law (refine step_copy_runI rfl _ _ 136 136 rfl _ _ (by simp [Act.eval, Act.put]) (by simp [Act.eval, Act.put]) (hcp1 _ _ _) ?_)
  go_wp2_with (at_builtin; refine wpList_copy_runI _ rfl _ _ 136 136 rfl _ _ rfl rfl (hcp2 _ (fun _ => rfl) (fun _ => rfl) _ _) ?_)
  go_ret
  have ho2 := own_setCells u (i) HO1.out
  have hg2 := setCells_grown g u (i) W1
  have hx := HX.out
  have hy := HYl.out
  have hu := HU.out
  have htl := HTl.out
  refine ⟨.slice (some ⟨g, 0, none⟩) (n + 1) c, rfl, ?_, ⟨hg2.1.os.trans HG1.out.1.os, hg2.1.tape.trans (HG1.out.1.tape.trans rfl), hg2.1.output.trans HG1.out.1.output, ?_, fun b hb hn => (hg2.1.block b (by rw [HG1.out.2]; exact hb) hn).trans (HG1.out.1.block b hb hn)⟩, .inl rfl⟩
  · have e : layL (layL (xs ++ ys) (i + 1) tl) (i) u = xs.take (i * 1) ++ u ++ xs.drop (i * 1) := by
      have h := ins_list xs ys u (i * 1) 1 (by omega) hu (by omega)
      rw [← HT.out] at h ⊢
      rw [Nat.mul_one] at h ⊢
      exact h
    rw [e] at ho2
    exact ho2
  · rw [hg2.2, HG1.out.2]; exact Nat.le_refl _
set_option maxHeartbeats 4000000 in
set_option maxRecDepth 100000 in
theorem insert_grow_ptr (g n c i vb : Nat) (xs u : List Value) (w : World) (hown : w.ownsRow 0 112 1 (.slice (some ⟨g, 0, none⟩) n c) n xs) (hi : i < n) (hroom : c < n + 1) (hbig : n ≤ 1000000) (h1 : ∀ x ∈ xs, x.oneCell' = true) (hu : u.length = 1) (hu1 : ∀ x ∈ u, x.oneCell' = true) (hvb : w.heap[vb]? = some (.cells u.toArray 112 (0, 0))) :
    Calls Tryz.prog 65 #[.slice (some ⟨g, 0, none⟩) n c, .int .i64 i, .slice (some ⟨vb, 0, none⟩) 1 1] w (InsPost_ptr w (.slice (some ⟨g, 0, none⟩) n c) n (xs.take (i * 1) ++ u ++ xs.drop (i * 1))) := by
  obtain ⟨i0, hi0, hz0, hz1, hz2⟩ := info_parts nodePtrInfo
  obtain ⟨cur, hcur, hcs, hnc, hcm⟩ := own_plain hown
  have hxl := hown.1
  have hgw : g < w.heap.size := (Array.getElem?_eq_some_iff.1 hcur).1
  have hvw : vb < w.heap.size := (Array.getElem?_eq_some_iff.1 hvb).1
  have hsz : (Tryz.prog.info? 112).map (·.size) = some 1 := by rw [hi0]; simp [hz1]
  have hvs : ∀ j x, u[j]? = some x → w.cell? ⟨vb, j, none⟩ = some x := fun j x hx => by
    simp only [World.cell?, hvb]
    simpa using hx
  have hkk : (n : Int) + 1 - (i : Int) = ((n + 1 - i : Nat) : Int) := by omega
  have hik : i + (n + 1 - i) = n + 1 := by omega
  have hold : (Builtin.firstCells i0.size i (.slice (some ⟨g, 0, none⟩) i c)).run Tryz.prog w.drew = .ok (xs.take (i * 1)).toArray w.drew := by
    rw [hz1]
    exact run_firstCells_some w.drew 1 i ⟨g, 0, none⟩ i c (xs.take (i * 1)) (by rw [List.length_take]; omega) (fun j x hj => by
      rw [addr_add', Nat.zero_add]
      show w.cell? _ = _
      rw [List.getElem?_take] at hj
      split at hj
      · rw [hown.cellAt j (by omega)]; exact hj
      · cases hj)
  have hrz : ∀ ty, (Builtin.append_ #[136, 3] ty #[.slice (some ⟨g, 0, none⟩) i c, .int .i64 ((n : Int) + 1 - (i : Int))]).run Tryz.prog w =
      .ok (.slice (some ⟨w.heap.size, 0, none⟩) (n + 1) (grownCap w (n + 1) c 112)) (w.drew.alloc (.cells ((xs.take (i * 1)).toArray ++ Builtin.zeroCells ((.pointer none) : Value).cells (n + 1 - i) ++ Builtin.zeroCells ((.pointer none) : Value).cells (grownCap w (n + 1) c 112 - (n + 1))) 112)) := fun ty => by
    have h := Lib.run_append_grow_zeros w 136 3 ty 112 i0 _ .i64 .i64 Tryz.underlying136 Tryz.underlying3 hi0 hz0 (some ⟨g, 0, none⟩) i c (xs.take (i * 1)) hold (n + 1 - i) (by omega) (by omega) (by omega) (by omega) (by rw [hz2]; omega) (by rw [hz2, hik]; exact growslice_fits hroom (by omega))
    rw [hik] at h
    rw [hkk]
    exact h
  obtain ⟨G, hG⟩ : ∃ G, G = grownCap w (n + 1) c 112 := ⟨_, rfl⟩
  have hGn : n + 1 ≤ G := by rw [hG]; exact grownCap_ge w _ _ _
  have hGm : G ≤ maxLen := by rw [hG]; exact grownCap_le_maxLen w (n + 1) c 112 (by unfold maxLen; omega)
  have hG63 : G ≤ 9223372036854775807 := by unfold maxLen at hGm; omega
  obtain ⟨ROW, hROW⟩ : ∃ ROW : Array Value, ROW = (xs.take (i * 1)).toArray ++ Builtin.zeroCells ((.pointer none) : Value).cells (n + 1 - i) ++ Builtin.zeroCells ((.pointer none) : Value).cells (G - (n + 1)) := ⟨_, rfl⟩
  rw [← hG] at hrz
  rw [← hROW] at hrz
  have hzc : (((.pointer none) : Value).cells).size = 1 := rfl
  have hRl : ROW.size = G * 1 := by
    rw [hROW, Array.size_append, Array.size_append, size_zeroCells, size_zeroCells, hzc, List.size_toArray, List.length_take]
    omega
  have hRt : ROW.toList.take (i * 1) = xs.take (i * 1) := by
    rw [hROW, Array.toList_append, Array.toList_append, List.append_assoc, List.take_append_of_le_length (by simp; omega), List.toList_toArray, List.take_take, Nat.min_self]
  obtain ⟨W1, hW1⟩ : ∃ W1, W1 = w.drew.alloc (.cells ROW 112) := ⟨_, rfl⟩
  have how : W1.ownsRow 0 112 1 (.slice (some ⟨w.heap.size, 0, none⟩) (n + 1) G) (n + 1) (ROW.toList.take ((n + 1) * 1)) := by
    refine ⟨by rw [List.length_take, Array.length_toList]; omega, .inr ⟨w.heap.size, G, ROW, rfl, Nat.zero_le _, by rw [hW1]; exact heap_alloc_new w.drew _, hGn, hGm, hRl, rfl⟩⟩
  rw [← hW1] at hrz
  have hOld : ∀ b, b < w.heap.size → W1.heap[b]? = w.heap[b]? := fun b hb => by rw [hW1]; exact heap_alloc_old w.drew _ hb
  have hmin2 : Nat.min 1 (n + 1 - i) = 1 := by show min _ _ = _; omega
  have hrl : (ROW.toList.take ((n + 1) * 1)).length = (n + 1) * 1 := how.1
  have hcpA : ∀ (W : World), (∀ x, W.cell? x = W1.cell? x) → (∀ x, W.frozen? x = W1.frozen? x) → ∀ ty dc, (Builtin.copy_ #[136, 136] ty #[.slice (some ⟨w.heap.size, i, none⟩) (n + 1 - i) dc, .slice (some ⟨vb, 0, none⟩) 1 1]).run Tryz.prog W = .ok (goInt 1) (W.setCells w.heap.size (i) u) := fun W hWc hWf ty dc => by
    have h := run_copy_cellsK (P := Tryz.prog) W 136 136 ty 112 1 w.heap.size (i) (n + 1 - i) dc ⟨vb, 0, none⟩ 1 1 u Tryz.underlying136 hsz (by rw [hmin2, hu])
      (fun j x hx => by
        rw [addr_add', Nat.zero_add, hWc, World.cell?_of_block (w := w) (a := ⟨vb, j, none⟩) (hOld vb hvw)]
        exact hvs j x hx)
      (fun j hj => by rw [hWc, how.cellAt _ (by omega), List.getElem?_eq_getElem (by rw [hrl]; omega)]; rfl) (fun j hj => by rw [hWf]; exact how.frozenAt _) hu1
    rw [hmin2] at h
    exact h
  obtain ⟨tl, htl⟩ : ∃ tl, tl = xs.drop (i * 1) := ⟨_, rfl⟩
  have htll : tl.length = (n - i) * 1 := by rw [htl, List.length_drop, hxl]; omega
  have how2 := own_setCells u (i) how
  have hgN : g ≠ w.heap.size := by omega
  have hmin1 : Nat.min (n - i) (n - i) = n - i := by show min _ _ = _; omega
  have hcpB : ∀ (W : World), (∀ x, W.cell? x = (W1.setCells w.heap.size (i) u).cell? x) → (∀ x, W.frozen? x = (W1.setCells w.heap.size (i) u).frozen? x) → ∀ ty dc sc, (Builtin.copy_ #[136, 136] ty #[.slice (some ⟨w.heap.size, i + 1, none⟩) (n - i) dc, .slice (some ⟨g, i, none⟩) (n - i) sc]).run Tryz.prog W = .ok (goInt ((n - i : Nat) : Int)) (W.setCells w.heap.size (i + 1) tl) := fun W hWc hWf ty dc sc => by
    have h := run_copy_cellsK (P := Tryz.prog) W 136 136 ty 112 1 w.heap.size (i + 1) (n - i) dc ⟨g, i, none⟩ (n - i) sc tl Tryz.underlying136 hsz (by rw [hmin1]; exact htll)
      (fun j x hx => by
        have hlt := (List.getElem?_eq_some_iff.1 hx).1
        rw [addr_add', hWc, World.cell?_setCells_out _ _ _ _ _ (fun h _ => absurd h hgN), World.cell?_of_block (w := w) (a := ⟨g, _, none⟩) (hOld g hgw)]
        rw [htl, List.getElem?_drop] at hx
        rw [hown.cellAt _ (by omega)]
        rw [Nat.mul_one] at hx; exact hx)
      (fun j hj => by rw [hWc, how2.cellAt _ (by omega), List.getElem?_eq_getElem (by rw [layL_length, hrl]; omega)]; rfl)
      (fun j hj => by rw [hWf]; exact how2.frozenAt _) (fun x hx => h1 x (by rw [htl] at hx; exact List.mem_of_mem_drop hx))
    rw [hmin1] at h
    exact h
  have hfin : ∀ W : World, W.heap = ((W1.setCells w.heap.size (i) u).setCells w.heap.size (i + 1) tl).heap → W.os = w.os ∧ W.tape = w.tape ∧ W.output = w.output → InsPost_ptr w (.slice (some ⟨g, 0, none⟩) n c) n (xs.take (i * 1) ++ u ++ xs.drop (i * 1)) (.returned (.slice (some ⟨w.heap.size, 0, none⟩) (n + 1) G)) W := fun W hWh hWo => by
    have h3 := own_setCells tl (i + 1) how2
    have h4 := setCells_grown w.heap.size tl (i + 1) (W1.setCells w.heap.size (i) u)
    have h5 := setCells_grown w.heap.size u (i) W1
    have e : layL (layL (ROW.toList.take ((n + 1) * 1)) (i) u) (i + 1) tl = xs.take (i * 1) ++ u ++ xs.drop (i * 1) := by
      have ea : layL (ROW.toList.take ((n + 1) * 1)) (i) u = xs.take (i) ++ u ++ (ROW.toList.take ((n + 1) * 1)).drop (i + u.length) := by
        rw [layL_eq _ _ _ (by rw [hrl]; omega), List.take_take, Nat.min_eq_left (by omega)]
        rw [Nat.mul_one] at hRt
        rw [hRt]
      have hlen1 : (xs.take (i) ++ u).length = i + 1 := by rw [List.length_append, List.length_take, hu]; omega
      rw [layL_eq _ _ _ (by rw [layL_length, hrl]; omega), List.drop_of_length_le (by rw [layL_length, hrl]; omega), List.append_nil, ea]
      have := List.take_left (l₁ := xs.take (i) ++ u) (l₂ := (ROW.toList.take ((n + 1) * 1)).drop (i + u.length))
      rw [hlen1] at this
      rw [this, htl]
      rw [Nat.mul_one]
    rw [e] at h3
    have hs1 : W1.heap.size = w.heap.size + 1 := by rw [hW1]; simp
    have hsw : W.heap.size = w.heap.size + 1 := by rw [hWh, h4.2, h5.2, hs1]
    refine ⟨_, rfl, own_heap h3 (fun b _ => by rw [hWh]), ⟨hWo.1, hWo.2.1, hWo.2.2, by omega, fun b hb _ => ?_⟩, .inr ⟨w.heap.size, rfl, Nat.le_refl _⟩⟩
    rw [hWh]
    exact (h4.1.block b (by rw [h5.2]; omega) (fun e => by have := Option.some.inj e; omega)).trans ((h5.1.block b (by omega) (fun e => by have := Option.some.inj e; omega)).trans (hOld b hb))
  have HF := hide hfin
  subst hW1
  have hE1 : ∀ x, ((w.alloc (.cells ROW 112)).drew).cell? x = (w.drew.alloc (.cells ROW 112)).cell? x := fun x => rfl
  have hE2 : ∀ x, ((w.alloc (.cells ROW 112)).drew).frozen? x = (w.drew.alloc (.cells ROW 112)).frozen? x := fun x => rfl
  have hF1 : ∀ x, (((w.alloc (.cells ROW 112)).drew.setCells w.heap.size (i) u).drew).cell? x = ((w.drew.alloc (.cells ROW 112)).setCells w.heap.size (i) u).cell? x := fun x => rfl
  have hF2 : ∀ x, (((w.alloc (.cells ROW 112)).drew.setCells w.heap.size (i) u).drew).frozen? x = ((w.drew.alloc (.cells ROW 112)).setCells w.heap.size (i) u).frozen? x := fun x => rfl
  have hz3 : (c : Int) < (n : Int) + 1 := by omega
  have hGi : ¬ (G = i) := by omega
  have hGim : ¬ (G = i + 1) := by omega
  have hci : ¬ (c = i) := by omega
  have hz2' : ¬ ((i : Int) = (n : Int)) := by omega
  have hw1 : IntKind.i64.wrap ((i : Int) + 1) = (i : Int) + 1 := by rw [IntKind.wrap_i64]; omega
  have hb1 : (0 : Int) ≤ (i : Int) + 1 := by omega
  have hin : i ≤ n := by omega
  have htn : ((i : Int) + 1).toNat = i + 1 := by omega
  have hb3 : (i : Int) ≤ (n : Int) := by omega
  clear hkk hik hold hROW hG hRl hown how how2 hfin hcur hvb hvs hxl htll htl hu hOld hRt hrl hcs
  go_enter Tryz.func65, Tryz.ntmps65
  go_wp2_with (first
    | (at_builtin; refine Lib.wpList_append_run _ rfl _ _ _ _ rfl _ _ rfl rfl _ _ (hrz _) ?_)
    | (at_builtin; refine wpList_copy_runI _ rfl _ _ 136 136 rfl _ _ rfl rfl (hcpA _ hE1 hE2 _ _) ?_)
    | (at_builtin; refine wpList_copy_runI _ rfl _ _ 136 136 rfl _ _ rfl rfl (hcpB _ (fun _ => rfl) (fun _ => rfl) _ _ _) ?_))
  go_region_law (refine step_copy_runI rfl _ _ 136 136 rfl (.slice (some ⟨w.heap.size, i + 1, none⟩) (n - i) (G - (i + 1))) (.slice (some ⟨g, i, none⟩) (n - i) (c - i)) (by simp [Act.eval, Act.put]) (by simp [Act.eval, Act.put]) (hcpB _ hF1 hF2 3 (G - (i + 1)) (c - i)) ?_)
  go_wp2
  go_ret
  have h1 := (setCells_grown w.heap.size tl (i + 1) ((w.alloc (.cells ROW 112)).drew.setCells w.heap.size (i) u).drew).1
  have h2 := (setCells_grown w.heap.size u (i) (w.alloc (.cells ROW 112)).drew).1
  exact HF.out _ (by rw [heap_setCells_drew]; rfl) ⟨h1.os.trans h2.os, h1.tape.trans h2.tape, h1.output.trans h2.output⟩
theorem insert_ptr (v : Value) (n i vb : Nat) (xs u : List Value) (w : World) (hown : w.ownsRow 0 112 1 v n xs) (hi : i ≤ n) (hn : n ≤ 1000000) (h1 : ∀ x ∈ xs, x.oneCell' = true) (hu : u.length = 1) (hu1 : ∀ x ∈ u, x.oneCell' = true) (hvb : w.heap[vb]? = some (.cells u.toArray 112 (0, 0))) (hne : v.ownBlock ≠ some vb) :
    Calls Tryz.prog 65 #[v, .int .i64 i, .slice (some ⟨vb, 0, none⟩) 1 1] w (InsPost_ptr w v n (xs.take (i * 1) ++ u ++ xs.drop (i * 1))) := by
  have hxl := hown.1
  by_cases e : i = n
  · have e1 : xs.take (i * 1) ++ u ++ xs.drop (i * 1) = xs ++ u := by rw [List.take_of_length_le (by omega), List.drop_of_length_le (by omega), List.append_nil]
    rw [e1]
    exact insert_end_ptr v n i vb xs u w hown e hn hu hu1 hvb
  · rcases hown.2 with ⟨_, h0⟩ | ⟨g, c, cur, rfl, _⟩
    · omega
    · by_cases hr : n + 1 ≤ c
      · exact insert_shift_ptr g n c i vb xs u w hown (by omega) hr h1 hu hu1 hvb (fun e => hne (by rw [e]; rfl))
      · exact insert_grow_ptr g n c i vb xs u w hown (by omega) (by omega) hn h1 hu hu1 hvb
end Go.Proofs.YtobgcaemnpkbmaaGreat
namespace Go.Proofs.YtobgcaemnpkbmaaGreat
open Go.RowKit
set_option maxHeartbeats 2000000 in
set_option maxRecDepth 100000 in
theorem take_last (ρ : Roles) (nb : Int → Nat) (mb : Nat) (rt : Option Nat) (w : World) (q : Nat) (R : List RN) (last : Int) (h : Dom ρ nb mb rt w q R last) (hI : Ids R) (k t : Nat) (hk : k < R.length) (ht : t < R.length) (hne : R[t].id ≠ R[k].id) (hp0 : R[k].par = 0) :
    Calls Tryz.prog 44 #[.pointer (some ⟨nb R[t].id, 0, none⟩), .pointer (some ⟨nb R[k].id, 0, none⟩), .pointer none] w fun e w' => e = .returned (.tuple #[]) ∧ ∃ ρ', Wrote ρ ρ' w w' ∧ Dom ρ' nb mb rt w' q (insP R { R[k] with par := R[t].id } k 0) last := by
  obtain ⟨av, kv, hP⟩ := h.node _ (List.getElem_mem ht)
  obtain ⟨avk, kvk, hPk⟩ := h.node _ (List.getElem_mem hk)
  have hpt : (0 : Int) < R[t].id := hI.pos _ (List.getElem_mem ht)
  have hlenK := kidIds_length R R[t].id
  have hfew := h.few
  have hL : kidIds (insP R { R[k] with par := R[t].id } k 0) R[t].id = kidIds R R[t].id ++ [R[k].id] := ins_last hk (by rw [hp0]; omega) rfl
  obtain ⟨ko, kc, rfl⟩ := own_shape hP.krow
  have c6 : w.cell? ⟨nb R[t].id, 6, none⟩ = some (.slice ko (kidIds R R[t].id).length kc) := cell_of_blk hP.blk 6 _ rfl
  have f6 := frozen_of_blk hP.blk 6
  have c5 : w.cell? ⟨nb R[k].id, 5, none⟩ = some (parPtr nb R[k].par) := cell_of_blk hPk.blk 5 _ rfl
  have f5 := frozen_of_blk hPk.blk 5
  have ltT := hP.lt
  have ltK := hPk.lt
  have hnn : nb R[t].id ≠ nb R[k].id := fun e => hne (hP.nb_inj hPk e)
  have hkvT : Value.ownBlock (.slice ko (kidIds R R[t].id).length kc) ≠ some (nb R[t].id) := fun e => by
    have := hP.krole _ e
    rw [hP.role] at this
    have := (Prod.mk.inj (Option.some.inj this)).2
    omega
  have hkvK : Value.ownBlock (.slice ko (kidIds R R[t].id).length kc) ≠ some (nb R[k].id) := fun e => by
    have := hP.krole _ e
    rw [hPk.role] at this
    have := (Prod.mk.inj (Option.some.inj this)).2
    omega
  have hkvlt : ∀ b, Value.ownBlock (.slice ko (kidIds R R[t].id).length kc) = some b → b < w.heap.size := fun b e => (hP.krow.lt b e).2
  have HD := hide h
  have HP := hide hP
  have HL := hide hL
  have HIns : Hid (∀ w1, Below w.heap.size w w1 → ∀ vb, w1.heap[vb]? = some (.cells #[.pointer (some ⟨nb R[k].id, 0, none⟩)] 112 (0, 0)) → w.heap.size ≤ vb → Calls Tryz.prog 65 #[.slice ko (kidIds R R[t].id).length kc, .int .i64 (kidIds R R[t].id).length, .slice (some ⟨vb, 0, none⟩) 1 1] w1
      (InsPost_ptr w1 (.slice ko (kidIds R R[t].id).length kc) (kidIds R R[t].id).length (ptrsOf nb (kidIds R R[t].id ++ [R[k].id])))) := by
    refine hide fun w1 hb1 vb hvb hvw => ?_
    have := insert_ptr (.slice ko (kidIds R R[t].id).length kc) (kidIds R R[t].id).length (kidIds R R[t].id).length vb (ptrsOf nb (kidIds R R[t].id)) [.pointer (some ⟨nb R[k].id, 0, none⟩)] w1 (ownsRow_below hP.krow hb1) (Nat.le_refl _) (by omega) (ptrsOf_one _ _) rfl (by simp [Value.oneCell']) hvb (fun e => by have := hkvlt _ e; omega)
    rw [Nat.mul_one, List.take_of_length_le (by rw [ptrsOf_length]; exact Nat.le_refl _), List.drop_of_length_le (by rw [ptrsOf_length]; exact Nat.le_refl _), List.append_nil] at this
    unfold ptrsOf at this ⊢
    rw [List.map_append]
    exact this
  have HkvT := hide hkvT
  have HkvK := hide hkvK
  have Hlt := hide hkvlt
  clear h hP hPk hL hkvT hkvK hkvlt
  go_enter Tryz.func44, Tryz.ntmps44
  go_wp2_with (first | (go_at_call 65; refine (unhide HIns _ ((Below.refl _ _).alloc (Nat.le_refl _) _) w.heap.size (heap_alloc_new w _) (Nat.le_refl _)).mono ?_; rintro e w2 ⟨v', rfl, hrow, hgr, hv⟩; obtain ⟨a2, c2, rfl⟩ := own_shape hrow; have hsz : w.heap.size + 1 ≤ w2.heap.size := (by have := hgr.size; simp at this; exact this); have hqT : w2.heap[nb R[t].id]? = w.heap[nb R[t].id]? := (hgr.block _ (by simp; omega) (Ne.symm (unhide HkvT))).trans (heap_alloc_old w _ ltT); have hqK : w2.heap[nb R[k].id]? = w.heap[nb R[k].id]? := (hgr.block _ (by simp; omega) (Ne.symm (unhide HkvK))).trans (heap_alloc_old w _ ltK); have d6 := (World.cell?_of_block (w := w) (a := ⟨nb R[t].id, 6, none⟩) hqT).trans c6; have g6 := (World.frozen?_of_block (w := w) (a := ⟨nb R[t].id, 6, none⟩) hqT).trans f6; have d5 := (World.cell?_of_block (w := w) (a := ⟨nb R[k].id, 5, none⟩) hqK).trans c5; have g5 := (World.frozen?_of_block (w := w) (a := ⟨nb R[k].id, 5, none⟩) hqK).trans f5; have HRow := hide hrow; have HGr := hide hgr; have HV := hide hv; clear hrow hgr hv hqT hqK))
  go_end0
  refine ⟨rfl, ?_⟩
  have hl2 : (kidIds R R[t].id ++ [R[k].id]).length = (kidIds R R[t].id).length + 1 := by simp
  exact Dom.taken HD.out hI hk ht hne hp0 HP.out (.inl rfl) HL.out (by omega) ⟨HGr.out.os, HGr.out.tape, HGr.out.output⟩ (fun b hb hn => (HGr.out.block b (by simp; omega) hn).trans (heap_alloc_old w _ hb)) (by rw [hl2]; exact HRow.out)
    (fun b e => by
      rcases HV.out with h | ⟨b', h, hb'⟩
      · exact .inl (h ▸ e)
      · rw [h] at e
        have := Option.some.inj e
        simp at hb'
        exact .inr (by omega))
set_option maxHeartbeats 2000000 in
set_option maxRecDepth 100000 in
theorem take_before (ρ : Roles) (nb : Int → Nat) (mb : Nat) (rt : Option Nat) (w : World) (q : Nat) (R : List RN) (last : Int) (h : Dom ρ nb mb rt w q R last) (hI : Ids R) (k t : Nat) (hk : k < R.length) (ht : t < R.length) (hne : R[t].id ≠ R[k].id) (hp0 : R[k].par = 0) (b : Nat) (hb : b < R.length) (hbp : R[b].par = R[t].id) :
    Calls Tryz.prog 44 #[.pointer (some ⟨nb R[t].id, 0, none⟩), .pointer (some ⟨nb R[k].id, 0, none⟩), .pointer (some ⟨nb R[b].id, 0, none⟩)] w fun e w' => e = .returned (.tuple #[]) ∧ ∃ ρ', Wrote ρ ρ' w w' ∧ Dom ρ' nb mb rt w' q (insP R { R[k] with par := R[t].id } k R[b].id) last := by
  obtain ⟨av, kv, hP⟩ := h.node _ (List.getElem_mem ht)
  obtain ⟨avk, kvk, hPk⟩ := h.node _ (List.getElem_mem hk)
  have hpt : (0 : Int) < R[t].id := hI.pos _ (List.getElem_mem ht)
  have hlenK := kidIds_length R R[t].id
  have hfew := h.few
  have hpb : (0 : Int) < R[b].id := hI.pos _ (List.getElem_mem hb)
  obtain ⟨i, hiK, higet, hifst, hL⟩ := ins_before (n := { R[k] with par := R[t].id }) (bf := R[b].id) (q := R[t].id) hI hk (by rw [hp0]; omega) rfl hb rfl hbp (by omega)
  replace hL : kidIds (insP R { R[k] with par := R[t].id } k R[b].id) R[t].id = (kidIds R R[t].id).take i ++ [R[k].id] ++ (kidIds R R[t].id).drop i := hL
  obtain ⟨g, kc, rfl⟩ : ∃ g kc, kv = .slice (some ⟨g, 0, none⟩) (kidIds R R[t].id).length kc := by
    rcases hP.krow.2 with ⟨_, e⟩ | ⟨g, cap, cur, e, _⟩
    · omega
    · exact ⟨g, cap, e⟩
  have c6 : w.cell? ⟨nb R[t].id, 6, none⟩ = some (.slice (some ⟨g, 0, none⟩) (kidIds R R[t].id).length kc) := cell_of_blk hP.blk 6 _ rfl
  have f6 := frozen_of_blk hP.blk 6
  have c5 : w.cell? ⟨nb R[k].id, 5, none⟩ = some (parPtr nb R[k].par) := cell_of_blk hPk.blk 5 _ rfl
  have f5 := frozen_of_blk hPk.blk 5
  have ltT := hP.lt
  have ltK := hPk.lt
  have hnn : nb R[t].id ≠ nb R[k].id := fun e => hne (hP.nb_inj hPk e)
  have hkvT : Value.ownBlock (.slice (some ⟨g, 0, none⟩) (kidIds R R[t].id).length kc) ≠ some (nb R[t].id) := fun e => by
    have := hP.krole _ e
    rw [hP.role] at this
    have := (Prod.mk.inj (Option.some.inj this)).2
    omega
  have hkvK : Value.ownBlock (.slice (some ⟨g, 0, none⟩) (kidIds R R[t].id).length kc) ≠ some (nb R[k].id) := fun e => by
    have := hP.krole _ e
    rw [hPk.role] at this
    have := (Prod.mk.inj (Option.some.inj this)).2
    omega
  have hkvlt : ∀ b, Value.ownBlock (.slice (some ⟨g, 0, none⟩) (kidIds R R[t].id).length kc) = some b → b < w.heap.size := fun b e => (hP.krow.lt b e).2
  have HD := hide h
  have HP := hide hP
  have HL := hide hL
  have HIns : Hid (∀ w1, Below w.heap.size w w1 → ∀ vb, w1.heap[vb]? = some (.cells #[.pointer (some ⟨nb R[k].id, 0, none⟩)] 112 (0, 0)) → w.heap.size ≤ vb → Calls Tryz.prog 65 #[.slice (some ⟨g, 0, none⟩) (kidIds R R[t].id).length kc, .int .i64 i, .slice (some ⟨vb, 0, none⟩) 1 1] w1
      (InsPost_ptr w1 (.slice (some ⟨g, 0, none⟩) (kidIds R R[t].id).length kc) (kidIds R R[t].id).length (ptrsOf nb ((kidIds R R[t].id).take i ++ [R[k].id] ++ (kidIds R R[t].id).drop i)))) := by
    refine hide fun w1 hb1 vb hvb hvw => ?_
    have := insert_ptr (.slice (some ⟨g, 0, none⟩) (kidIds R R[t].id).length kc) (kidIds R R[t].id).length i vb (ptrsOf nb (kidIds R R[t].id)) [.pointer (some ⟨nb R[k].id, 0, none⟩)] w1 (ownsRow_below hP.krow hb1) (by omega) (by omega) (ptrsOf_one _ _) rfl (by simp [Value.oneCell']) hvb (fun e => by have := hkvlt _ e; omega)
    rw [Nat.mul_one] at this
    unfold ptrsOf at this ⊢
    rw [List.map_append, List.map_append, List.map_take, List.map_drop]
    exact this
  have HIdx : Hid (Calls Tryz.prog 64 #[.slice (some ⟨g, 0, none⟩) (kidIds R R[t].id).length kc, .pointer (some ⟨nb R[b].id, 0, none⟩)] w fun e w' => e = .returned (.int .i64 i) ∧ w = w') := by
    refine hide ((index_any g (kidIds R R[t].id).length kc ((kidIds R R[t].id).map nb) (nb R[b].id) w (by simp) (by omega) i hiK (by rw [List.getElem?_map, higet]; rfl) (fun j hj e => ?_) (fun j y hy => ?_) (fun y hy => ?_)).mono fun _ _ h => ⟨h.1, h.2.symm⟩)
    · rw [List.getElem?_map] at e
      cases hx : (kidIds R R[t].id)[j]? with
      | none => rw [hx] at e; cases e
      | some z =>
        rw [hx] at e
        obtain ⟨m, hm, _, hmz⟩ := kidIds_mem.1 (List.mem_of_getElem? hx)
        obtain ⟨a1, a2, hPm⟩ := h.node m hm
        obtain ⟨b1, b2, hPb⟩ := h.node _ (List.getElem_mem hb)
        have e := Option.some.inj e
        rw [← hmz] at e
        exact hifst j hj (by rw [hx, ← hmz, hPm.nb_inj hPb e])
    · rw [hP.krow.cellAt j (by have := (List.getElem?_eq_some_iff.1 hy).1; simp at this; omega)]
      unfold ptrsOf
      rw [List.getElem?_map] at hy ⊢
      cases hx : (kidIds R R[t].id)[j]? with
      | none => rw [hx] at hy; cases hy
      | some z => rw [hx] at hy; cases hy; rfl
    · obtain ⟨z, hz, rfl⟩ := List.mem_map.1 hy
      obtain ⟨m, hm, _, rfl⟩ := kidIds_mem.1 hz
      obtain ⟨a1, a2, hPm⟩ := h.node m hm
      exact hPm.plain
  have HkvT := hide hkvT
  have HkvK := hide hkvK
  have Hlt := hide hkvlt
  clear h hP hPk hL hkvT hkvK hkvlt higet hifst
  go_enter Tryz.func44, Tryz.ntmps44
  go_wp2_with (first | (go_at_call 64; refine (unhide HIdx).mono ?_; rintro e w1 ⟨rfl, rfl⟩) | (go_at_call 65; refine (unhide HIns _ ((Below.refl _ _).alloc (Nat.le_refl _) _) w.heap.size (heap_alloc_new w _) (Nat.le_refl _)).mono ?_; rintro e w2 ⟨v', rfl, hrow, hgr, hv⟩; obtain ⟨a2, c2, rfl⟩ := own_shape hrow; have hsz : w.heap.size + 1 ≤ w2.heap.size := (by have := hgr.size; simp at this; exact this); have hqT : w2.heap[nb R[t].id]? = w.heap[nb R[t].id]? := (hgr.block _ (by simp; omega) (Ne.symm (unhide HkvT))).trans (heap_alloc_old w _ ltT); have hqK : w2.heap[nb R[k].id]? = w.heap[nb R[k].id]? := (hgr.block _ (by simp; omega) (Ne.symm (unhide HkvK))).trans (heap_alloc_old w _ ltK); have d6 := (World.cell?_of_block (w := w) (a := ⟨nb R[t].id, 6, none⟩) hqT).trans c6; have g6 := (World.frozen?_of_block (w := w) (a := ⟨nb R[t].id, 6, none⟩) hqT).trans f6; have d5 := (World.cell?_of_block (w := w) (a := ⟨nb R[k].id, 5, none⟩) hqK).trans c5; have g5 := (World.frozen?_of_block (w := w) (a := ⟨nb R[k].id, 5, none⟩) hqK).trans f5; have HRow := hide hrow; have HGr := hide hgr; have HV := hide hv; clear hrow hgr hv hqT hqK))
  go_end0
  refine ⟨rfl, ?_⟩
  have hl2 : ((kidIds R R[t].id).take i ++ [R[k].id] ++ (kidIds R R[t].id).drop i).length = (kidIds R R[t].id).length + 1 := by simp; omega
  exact Dom.taken HD.out hI hk ht hne hp0 HP.out (.inr ⟨b, hb, idAt_lt hb⟩) HL.out (by omega) ⟨HGr.out.os, HGr.out.tape, HGr.out.output⟩ (fun b hb hn => (HGr.out.block b (by simp; omega) hn).trans (heap_alloc_old w _ hb)) (by rw [hl2]; exact HRow.out)
    (fun b e => by
      rcases HV.out with h | ⟨b', h, hb'⟩
      · exact .inl (h ▸ e)
      · rw [h] at e
        have := Option.some.inj e
        simp at hb'
        exact .inr (by omega))
end Go.Proofs.YtobgcaemnpkbmaaGreat
namespace Go.Proofs.YtobgcaemnpkbmaaGreat
open Go.RowKit
set_option maxHeartbeats 4000000 in
set_option maxRecDepth 1000000 in
theorem delete_ptr (g n c i j : Nat) (xs : List Value) (w : World) (hown : w.ownsRow 0 112 1 (.slice (some ⟨g, 0, none⟩) n c) n xs) (hi : i < n) (hij : j = i + 1) (h1 : ∀ x ∈ xs, x.oneCell' = true) :
    Calls Tryz.prog 120 #[.slice (some ⟨g, 0, none⟩) n c, .int .i64 i, .int .i64 j] w fun e w' => e = .returned (.slice (some ⟨g, 0, none⟩) (n - 1) c) ∧
      w'.ownsRow 0 112 1 (.slice (some ⟨g, 0, none⟩) (n - 1) c) (n - 1) (xs.take (i * 1) ++ xs.drop ((i + 1) * 1)) ∧ w.grownBy w' (some g) ∧ w'.heap.size = w.heap.size := by
  obtain ⟨cur, hcur, hcs, hnc, hcm⟩ := own_plain hown
  obtain ⟨i0, hi0, hz0, hz1, hz2⟩ := info_parts nodePtrInfo
  have hxl := hown.1
  have hm : c ≤ 9223372036854775807 := by unfold maxLen at hcm; omega
  obtain ⟨news, hnews⟩ : ∃ news, news = xs.drop (j * 1) := ⟨_, rfl⟩
  have hlen : news.length = (n - j) * 1 := by rw [hnews, List.length_drop, hxl]; omega
  have hcell : ∀ k, k < n * 1 → ∃ u, w.cell? ⟨g, k, none⟩ = some u := fun k hk => ⟨xs[k]'(by omega), by rw [hown.cellAt k (by omega), List.getElem?_eq_getElem (by omega)]⟩
  obtain ⟨A, hA, hsrc⟩ : ∃ A : Addr, (if c = j then some (⟨g, 0, none⟩ : Addr) else some ⟨g, j, none⟩) = some A ∧ Hid (∀ t u, news[t]? = some u → w.drew.cell? (A.add t) = some u) := by
    by_cases h : c = j
    · refine ⟨⟨g, 0, none⟩, by simp [h], fun t u hu => ?_⟩
      have h0 : news.length = 0 := by omega
      rw [List.length_eq_zero_iff.1 h0] at hu
      simp at hu
    · refine ⟨⟨g, j, none⟩, by simp [h], fun t u hu => ?_⟩
      have ht := (List.getElem?_eq_some_iff.1 hu).1
      rw [hnews, List.getElem?_drop] at hu
      rw [addr_add']
      show w.cell? _ = _
      have hlt := (List.getElem?_eq_some_iff.1 hu).1
      rw [hown.cellAt _ (by omega)]
      rw [Nat.mul_one] at hu; exact hu
  have s1 : Hid (news.length = (n - j) * 1) := hlen
  have s2 : Hid (∀ u ∈ news, u.oneCell' = true) := fun u hu => h1 u (by rw [hnews] at hu; exact List.mem_of_mem_drop hu)
  have s3 : Hid (∀ t, t < news.length → (w.drew.cell? ⟨g, 0 + i * 1 + t, none⟩).isSome = true ∧ w.drew.frozen? ⟨g, 0 + i * 1 + t, none⟩ = false) := by
    intro t ht
    rw [hlen] at ht
    obtain ⟨u, hu⟩ := hcell (0 + i * 1 + t) (by omega)
    exact ⟨by show (w.cell? _).isSome = true; rw [hu]; rfl, hown.frozenAt _⟩
  obtain ⟨W1, hW1⟩ : ∃ W1, W1 = w.drew.setCells g (0 + i * 1) news := ⟨_, rfl⟩
  have ho1 : W1.ownsRow 0 112 1 (.slice (some ⟨g, 0, none⟩) n c) n (layL xs (0 + i * 1) news) := by rw [hW1]; exact own_setCells news (0 + i * 1) hown.drew
  have hl1 : (layL xs (0 + i * 1) news).length = n * 1 := by rw [layL_length, hxl]
  have hlast : i + (n - j) = n - 1 := by omega
  have hcl : ∀ ty k, (Builtin.clear_ #[136] ty #[.slice (some ⟨g, (n - 1), none⟩) (n - (n - 1)) k]).run Tryz.prog W1 = .ok (.tuple #[]) (W1.setCells g ((n - 1)) [.pointer none]) := fun ty k => by
    rw [show n - (n - 1) = 1 by omega]
    refine run_clear_one W1 136 112 ty (.pointer none) [.pointer none] Tryz.underlying136 (fun w => Tryz.zeroValue112 w) rfl (by simp) (by simp [Value.oneCell']) g ((n - 1)) k (fun t ht => ?_) (fun t _ => ho1.frozenAt _)
    have ht : t < 1 := ht
    rw [ho1.cellAt _ (by omega), List.getElem?_eq_getElem (by omega)]; rfl
  have hgw := setCells_grown g news (0 + i * 1) w.drew
  rw [← hW1] at hgw
  have HO := hide ho1
  have hW : Hid (W1 = w.drew.setCells g (0 + i * 1) news) := hW1
  have HG := hide hgw
  have HN := hide hnews
  have HX := hide hxl
  have HL := hide hlen
  have HJ := hide hij
  have hic : i ≤ c := by omega
  have hjc : j ≤ c := by omega
  have hjn : j ≤ n := by omega
  have hne : ¬ ((i : Int) = (j : Int)) := by omega
  have hl3 : n - (i + (n - j)) = 1 := by omega
  have hij' : i ≤ j := by omega
  clear hW1 ho1 hgw hnews hxl hlen hcell hown h1 hcur hl1 hij
  go_enter Tryz.func120, Tryz.ntmps120
  go_wp2_with fail
  go_region_law (refine step_append_room rfl (.tmp 22) (.tmp 25) 136 rfl 112 i0 1 Tryz.underlying136 hi0 hz1 g 0 i c (by simp [Act.eval, Act.put]) A (n - j) (c - j) news (by simp [Act.eval, Act.put]) s1.out hsrc.out s2.out (by omega) s3.out ?_; rw [← hW.out])
  go_wp2_with fail
  go_ret
  have ho2 := own_cut (own_setCells [.pointer none] ((n - 1)) HO.out) (m := n - 1) (by omega)
  have hg2 := setCells_grown g [.pointer none] ((n - 1)) W1
  have hx := HX.out
  have hj := HJ.out
  refine ⟨rfl, ?_, ⟨hg2.1.os.trans HG.out.1.os, hg2.1.tape.trans (HG.out.1.tape.trans ?_), hg2.1.output.trans HG.out.1.output, ?_, fun b hb hn => (hg2.1.block b (by rw [HG.out.2]; exact hb) hn).trans (HG.out.1.block b hb hn)⟩, by rw [hg2.2, HG.out.2]; rfl⟩
  · have e : (layL (layL xs (0 + i * 1) news) ((n - 1)) [.pointer none]).take ((n - 1) * 1) = xs.take (i * 1) ++ xs.drop ((i + 1) * 1) := by
      rw [layL_eq _ _ _ (by rw [layL_length]; simp; omega), layL_eq _ _ _ (by rw [HL.out]; omega), HN.out, hj]
      rw [List.append_assoc (List.take _ (_ ++ _)), List.take_append_of_le_length (by simp; omega), List.take_take, Nat.min_eq_left (by omega), List.take_append_of_le_length (by simp; omega), List.take_of_length_le (by simp; omega)]
      rw [Nat.zero_add]
    rw [e] at ho2
    exact ho2
  · rfl
  · rw [hg2.2, HG.out.2]; exact Nat.le_refl _
end Go.Proofs.YtobgcaemnpkbmaaGreat
