/- Tkw Ldp Lv -/
import Derived.Test.YtobgcaemnpkbmaaMd07
import Derived.Test.YtobgcaemnpkbmaaMd04
import Derived.Lib.SlicesDelete
namespace Go.Proofs.Ytobgcaemnpkbmaa
open Go.RowKit
set_option maxHeartbeats 2000000 in
set_option maxRecDepth 100000 in
theorem take_last (ρ : Roles) (nb : Int → Nat) (mb : Nat) (rt : Option Nat) (w : World) (q : Nat) (R : List RN) (last : Int) (h : Dom ρ nb mb rt w q R last) (hI : Ids R) (k t : Nat) (hk : k < R.length) (ht : t < R.length) (hne : R[t].id ≠ R[k].id) (hp0 : R[k].par = 0) :
    Calls Try.prog 36 #[.pointer (some ⟨nb R[t].id, 0, none⟩), .pointer (some ⟨nb R[k].id, 0, none⟩), .pointer none] w fun e w' => e = .returned (.tuple #[]) ∧ ∃ ρ', Wrote ρ ρ' w w' ∧ Dom ρ' nb mb rt w' q (insP R { R[k] with par := R[t].id } k 0) last := by
  obtain ⟨av, kv, hP⟩ := h.node _ (List.getElem_mem ht)
  obtain ⟨avk, kvk, hPk⟩ := h.node _ (List.getElem_mem hk)
  have hpt : (0 : Int) < R[t].id := hI.pos _ (List.getElem_mem ht)
  have hlenK := kidIds_length R R[t].id
  have hfew := h.few
  have hL : kidIds (insP R { R[k] with par := R[t].id } k 0) R[t].id = kidIds R R[t].id ++ [R[k].id] := ins_last hk (by rw [hp0]; omega) rfl
  obtain ⟨ko, kc, rfl⟩ := own_shape hP.krow
  have c6 : w.cell? ⟨nb R[t].id, 6, none⟩ = some (.slice ko (kidIds R R[t].id).length kc) := cell_of_blk hP.blk 6 _ rfl
  have f6 := frozen_of_blk hP.blk 6
  have c5 : w.cell? ⟨nb R[k].id, 5, none⟩ = some (parPtr nb R[k].par) := cell_of_blk hPk.blk 5 _ rfl
  have f5 := frozen_of_blk hPk.blk 5
  have ltT := hP.lt
  have ltK := hPk.lt
  have hnn : nb R[t].id ≠ nb R[k].id := fun e => hne (hP.nb_inj hPk e)
  have hkvT : Value.ownBlock (.slice ko (kidIds R R[t].id).length kc) ≠ some (nb R[t].id) := fun e => by
    have := hP.krole _ e
    rw [hP.role] at this
    have := (Prod.mk.inj (Option.some.inj this)).2
    omega
  have hkvK : Value.ownBlock (.slice ko (kidIds R R[t].id).length kc) ≠ some (nb R[k].id) := fun e => by
    have := hP.krole _ e
    rw [hPk.role] at this
    have := (Prod.mk.inj (Option.some.inj this)).2
    omega
  have hkvlt : ∀ b, Value.ownBlock (.slice ko (kidIds R R[t].id).length kc) = some b → b < w.heap.size := fun b e => (hP.krow.lt b e).2
  have HD := hide h
  have HP := hide hP
  have HL := hide hL
  have HIns : Hid (∀ w1, Below w.heap.size w w1 → ∀ vb, w1.heap[vb]? = some (.cells #[.pointer (some ⟨nb R[k].id, 0, none⟩)] 69 (0, 0)) → w.heap.size ≤ vb → Calls Try.prog 48 #[.slice ko (kidIds R R[t].id).length kc, .int .i64 (kidIds R R[t].id).length, .slice (some ⟨vb, 0, none⟩) 1 1] w1
      (InsPost_ptr w1 (.slice ko (kidIds R R[t].id).length kc) (kidIds R R[t].id).length (ptrsOf nb (kidIds R R[t].id ++ [R[k].id])))) := by
    refine hide fun w1 hb1 vb hvb hvw => ?_
    have := insert_ptr (.slice ko (kidIds R R[t].id).length kc) (kidIds R R[t].id).length (kidIds R R[t].id).length vb (ptrsOf nb (kidIds R R[t].id)) [.pointer (some ⟨nb R[k].id, 0, none⟩)] w1 (ownsRow_below hP.krow hb1) (Nat.le_refl _) (by omega) (ptrsOf_one _ _) rfl (by simp [Value.oneCell']) hvb (fun e => by have := hkvlt _ e; omega)
    rw [Nat.mul_one, List.take_of_length_le (by rw [ptrsOf_length]; exact Nat.le_refl _), List.drop_of_length_le (by rw [ptrsOf_length]; exact Nat.le_refl _), List.append_nil] at this
    unfold ptrsOf at this ⊢
    rw [List.map_append]
    exact this
  have HkvT := hide hkvT
  have HkvK := hide hkvK
  have Hlt := hide hkvlt
  clear h hP hPk hL hkvT hkvK hkvlt
  go_enter Try.func36, Try.ntmps36
  go_wp2_with (first | (go_at_call 48; refine (unhide HIns _ ((Below.refl _ _).alloc (Nat.le_refl _) _) w.heap.size (heap_alloc_new w _) (Nat.le_refl _)).mono ?_; rintro e w2 ⟨v', rfl, hrow, hgr, hv⟩; obtain ⟨a2, c2, rfl⟩ := own_shape hrow; have hsz : w.heap.size + 1 ≤ w2.heap.size := (by have := hgr.size; simp at this; exact this); have hqT : w2.heap[nb R[t].id]? = w.heap[nb R[t].id]? := (hgr.block _ (by simp; omega) (Ne.symm (unhide HkvT))).trans (heap_alloc_old w _ ltT); have hqK : w2.heap[nb R[k].id]? = w.heap[nb R[k].id]? := (hgr.block _ (by simp; omega) (Ne.symm (unhide HkvK))).trans (heap_alloc_old w _ ltK); have d6 := (World.cell?_of_block (w := w) (a := ⟨nb R[t].id, 6, none⟩) hqT).trans c6; have g6 := (World.frozen?_of_block (w := w) (a := ⟨nb R[t].id, 6, none⟩) hqT).trans f6; have d5 := (World.cell?_of_block (w := w) (a := ⟨nb R[k].id, 5, none⟩) hqK).trans c5; have g5 := (World.frozen?_of_block (w := w) (a := ⟨nb R[k].id, 5, none⟩) hqK).trans f5; have HRow := hide hrow; have HGr := hide hgr; have HV := hide hv; clear hrow hgr hv hqT hqK))
  go_end0
  refine ⟨rfl, ?_⟩
  have hl2 : (kidIds R R[t].id ++ [R[k].id]).length = (kidIds R R[t].id).length + 1 := by simp
  exact Dom.taken HD.out hI hk ht hne hp0 HP.out (.inl rfl) HL.out (by omega) ⟨HGr.out.os, HGr.out.tape, HGr.out.output⟩ (fun b hb hn => (HGr.out.block b (by simp; omega) hn).trans (heap_alloc_old w _ hb)) (by rw [hl2]; exact HRow.out)
    (fun b e => by
      rcases HV.out with h | ⟨b', h, hb'⟩
      · exact .inl (h ▸ e)
      · rw [h] at e
        have := Option.some.inj e
        simp at hb'
        exact .inr (by omega))
set_option maxHeartbeats 2000000 in
set_option maxRecDepth 100000 in
theorem take_before (ρ : Roles) (nb : Int → Nat) (mb : Nat) (rt : Option Nat) (w : World) (q : Nat) (R : List RN) (last : Int) (h : Dom ρ nb mb rt w q R last) (hI : Ids R) (k t : Nat) (hk : k < R.length) (ht : t < R.length) (hne : R[t].id ≠ R[k].id) (hp0 : R[k].par = 0) (b : Nat) (hb : b < R.length) (hbp : R[b].par = R[t].id) :
    Calls Try.prog 36 #[.pointer (some ⟨nb R[t].id, 0, none⟩), .pointer (some ⟨nb R[k].id, 0, none⟩), .pointer (some ⟨nb R[b].id, 0, none⟩)] w fun e w' => e = .returned (.tuple #[]) ∧ ∃ ρ', Wrote ρ ρ' w w' ∧ Dom ρ' nb mb rt w' q (insP R { R[k] with par := R[t].id } k R[b].id) last := by
  obtain ⟨av, kv, hP⟩ := h.node _ (List.getElem_mem ht)
  obtain ⟨avk, kvk, hPk⟩ := h.node _ (List.getElem_mem hk)
  have hpt : (0 : Int) < R[t].id := hI.pos _ (List.getElem_mem ht)
  have hlenK := kidIds_length R R[t].id
  have hfew := h.few
  have hpb : (0 : Int) < R[b].id := hI.pos _ (List.getElem_mem hb)
  obtain ⟨i, hiK, higet, hifst, hL⟩ := ins_before (n := { R[k] with par := R[t].id }) (bf := R[b].id) (q := R[t].id) hI hk (by rw [hp0]; omega) rfl hb rfl hbp (by omega)
  replace hL : kidIds (insP R { R[k] with par := R[t].id } k R[b].id) R[t].id = (kidIds R R[t].id).take i ++ [R[k].id] ++ (kidIds R R[t].id).drop i := hL
  obtain ⟨g, kc, rfl⟩ : ∃ g kc, kv = .slice (some ⟨g, 0, none⟩) (kidIds R R[t].id).length kc := by
    rcases hP.krow.2 with ⟨_, e⟩ | ⟨g, cap, cur, e, _⟩
    · omega
    · exact ⟨g, cap, e⟩
  have c6 : w.cell? ⟨nb R[t].id, 6, none⟩ = some (.slice (some ⟨g, 0, none⟩) (kidIds R R[t].id).length kc) := cell_of_blk hP.blk 6 _ rfl
  have f6 := frozen_of_blk hP.blk 6
  have c5 : w.cell? ⟨nb R[k].id, 5, none⟩ = some (parPtr nb R[k].par) := cell_of_blk hPk.blk 5 _ rfl
  have f5 := frozen_of_blk hPk.blk 5
  have ltT := hP.lt
  have ltK := hPk.lt
  have hnn : nb R[t].id ≠ nb R[k].id := fun e => hne (hP.nb_inj hPk e)
  have hkvT : Value.ownBlock (.slice (some ⟨g, 0, none⟩) (kidIds R R[t].id).length kc) ≠ some (nb R[t].id) := fun e => by
    have := hP.krole _ e
    rw [hP.role] at this
    have := (Prod.mk.inj (Option.some.inj this)).2
    omega
  have hkvK : Value.ownBlock (.slice (some ⟨g, 0, none⟩) (kidIds R R[t].id).length kc) ≠ some (nb R[k].id) := fun e => by
    have := hP.krole _ e
    rw [hPk.role] at this
    have := (Prod.mk.inj (Option.some.inj this)).2
    omega
  have hkvlt : ∀ b, Value.ownBlock (.slice (some ⟨g, 0, none⟩) (kidIds R R[t].id).length kc) = some b → b < w.heap.size := fun b e => (hP.krow.lt b e).2
  have HD := hide h
  have HP := hide hP
  have HL := hide hL
  have HIns : Hid (∀ w1, Below w.heap.size w w1 → ∀ vb, w1.heap[vb]? = some (.cells #[.pointer (some ⟨nb R[k].id, 0, none⟩)] 69 (0, 0)) → w.heap.size ≤ vb → Calls Try.prog 48 #[.slice (some ⟨g, 0, none⟩) (kidIds R R[t].id).length kc, .int .i64 i, .slice (some ⟨vb, 0, none⟩) 1 1] w1
      (InsPost_ptr w1 (.slice (some ⟨g, 0, none⟩) (kidIds R R[t].id).length kc) (kidIds R R[t].id).length (ptrsOf nb ((kidIds R R[t].id).take i ++ [R[k].id] ++ (kidIds R R[t].id).drop i)))) := by
    refine hide fun w1 hb1 vb hvb hvw => ?_
    have := insert_ptr (.slice (some ⟨g, 0, none⟩) (kidIds R R[t].id).length kc) (kidIds R R[t].id).length i vb (ptrsOf nb (kidIds R R[t].id)) [.pointer (some ⟨nb R[k].id, 0, none⟩)] w1 (ownsRow_below hP.krow hb1) (by omega) (by omega) (ptrsOf_one _ _) rfl (by simp [Value.oneCell']) hvb (fun e => by have := hkvlt _ e; omega)
    rw [Nat.mul_one] at this
    unfold ptrsOf at this ⊢
    rw [List.map_append, List.map_append, List.map_take, List.map_drop]
    exact this
  have HIdx : Hid (Calls Try.prog 47 #[.slice (some ⟨g, 0, none⟩) (kidIds R R[t].id).length kc, .pointer (some ⟨nb R[b].id, 0, none⟩)] w fun e w' => e = .returned (.int .i64 i) ∧ w = w') := by
    refine hide ((index_any g (kidIds R R[t].id).length kc ((kidIds R R[t].id).map nb) (nb R[b].id) w (by simp) (by omega) i hiK (by rw [List.getElem?_map, higet]; rfl) (fun j hj e => ?_) (fun j y hy => ?_) (fun y hy => ?_)).mono fun _ _ h => ⟨h.1, h.2.symm⟩)
    · rw [List.getElem?_map] at e
      cases hx : (kidIds R R[t].id)[j]? with
      | none => rw [hx] at e; cases e
      | some z =>
        rw [hx] at e
        obtain ⟨m, hm, _, hmz⟩ := kidIds_mem.1 (List.mem_of_getElem? hx)
        obtain ⟨a1, a2, hPm⟩ := h.node m hm
        obtain ⟨b1, b2, hPb⟩ := h.node _ (List.getElem_mem hb)
        have e := Option.some.inj e
        rw [← hmz] at e
        exact hifst j hj (by rw [hx, ← hmz, hPm.nb_inj hPb e])
    · rw [hP.krow.cellAt j (by have := (List.getElem?_eq_some_iff.1 hy).1; simp at this; omega)]
      unfold ptrsOf
      rw [List.getElem?_map] at hy ⊢
      cases hx : (kidIds R R[t].id)[j]? with
      | none => rw [hx] at hy; cases hy
      | some z => rw [hx] at hy; cases hy; rfl
    · obtain ⟨z, hz, rfl⟩ := List.mem_map.1 hy
      obtain ⟨m, hm, _, rfl⟩ := kidIds_mem.1 hz
      obtain ⟨a1, a2, hPm⟩ := h.node m hm
      exact hPm.plain
  have HkvT := hide hkvT
  have HkvK := hide hkvK
  have Hlt := hide hkvlt
  clear h hP hPk hL hkvT hkvK hkvlt higet hifst
  go_enter Try.func36, Try.ntmps36
  go_wp2_with (first | (go_at_call 47; refine (unhide HIdx).mono ?_; rintro e w1 ⟨rfl, rfl⟩) | (go_at_call 48; refine (unhide HIns _ ((Below.refl _ _).alloc (Nat.le_refl _) _) w.heap.size (heap_alloc_new w _) (Nat.le_refl _)).mono ?_; rintro e w2 ⟨v', rfl, hrow, hgr, hv⟩; obtain ⟨a2, c2, rfl⟩ := own_shape hrow; have hsz : w.heap.size + 1 ≤ w2.heap.size := (by have := hgr.size; simp at this; exact this); have hqT : w2.heap[nb R[t].id]? = w.heap[nb R[t].id]? := (hgr.block _ (by simp; omega) (Ne.symm (unhide HkvT))).trans (heap_alloc_old w _ ltT); have hqK : w2.heap[nb R[k].id]? = w.heap[nb R[k].id]? := (hgr.block _ (by simp; omega) (Ne.symm (unhide HkvK))).trans (heap_alloc_old w _ ltK); have d6 := (World.cell?_of_block (w := w) (a := ⟨nb R[t].id, 6, none⟩) hqT).trans c6; have g6 := (World.frozen?_of_block (w := w) (a := ⟨nb R[t].id, 6, none⟩) hqT).trans f6; have d5 := (World.cell?_of_block (w := w) (a := ⟨nb R[k].id, 5, none⟩) hqK).trans c5; have g5 := (World.frozen?_of_block (w := w) (a := ⟨nb R[k].id, 5, none⟩) hqK).trans f5; have HRow := hide hrow; have HGr := hide hgr; have HV := hide hv; clear hrow hgr hv hqT hqK))
  go_end0
  refine ⟨rfl, ?_⟩
  have hl2 : ((kidIds R R[t].id).take i ++ [R[k].id] ++ (kidIds R R[t].id).drop i).length = (kidIds R R[t].id).length + 1 := by simp; omega
  exact Dom.taken HD.out hI hk ht hne hp0 HP.out (.inr ⟨b, hb, idAt_lt hb⟩) HL.out (by omega) ⟨HGr.out.os, HGr.out.tape, HGr.out.output⟩ (fun b hb hn => (HGr.out.block b (by simp; omega) hn).trans (heap_alloc_old w _ hb)) (by rw [hl2]; exact HRow.out)
    (fun b e => by
      rcases HV.out with h | ⟨b', h, hb'⟩
      · exact .inl (h ▸ e)
      · rw [h] at e
        have := Option.some.inj e
        simp at hb'
        exact .inr (by omega))
end Go.Proofs.Ytobgcaemnpkbmaa
namespace Go.Proofs.Ytobgcaemnpkbmaa
open Go.RowKit
set_option maxHeartbeats 4000000 in
set_option maxRecDepth 1000000 in
theorem delete_ptr (g n c i j : Nat) (xs : List Value) (w : World) (hown : w.ownsRow 0 69 1 (.slice (some ⟨g, 0, none⟩) n c) n xs) (hi : i < n) (hij : j = i + 1) (h1 : ∀ x ∈ xs, x.oneCell' = true) :
    Calls Try.prog 86 #[.slice (some ⟨g, 0, none⟩) n c, .int .i64 i, .int .i64 j] w fun e w' => e = .returned (.slice (some ⟨g, 0, none⟩) (n - 1) c) ∧
      w'.ownsRow 0 69 1 (.slice (some ⟨g, 0, none⟩) (n - 1) c) (n - 1) (xs.take (i * 1) ++ xs.drop ((i + 1) * 1)) ∧ w.grownBy w' (some g) ∧ w'.heap.size = w.heap.size := by
  obtain ⟨cur, hcur, hcs, hnc, hcm⟩ := own_plain hown
  obtain ⟨i0, hi0, hz0, hz1, hz2⟩ := info_parts nodePtrInfo
  have hxl := hown.1
  have hm : c ≤ 9223372036854775807 := by unfold maxLen at hcm; omega
  obtain ⟨news, hnews⟩ : ∃ news, news = xs.drop (j * 1) := ⟨_, rfl⟩
  have hlen : news.length = (n - j) * 1 := by rw [hnews, List.length_drop, hxl]; omega
  have hcell : ∀ k, k < n * 1 → ∃ u, w.cell? ⟨g, k, none⟩ = some u := fun k hk => ⟨xs[k]'(by omega), by rw [hown.cellAt k (by omega), List.getElem?_eq_getElem (by omega)]⟩
  obtain ⟨A, hA, hsrc⟩ : ∃ A : Addr, (if c = j then some (⟨g, 0, none⟩ : Addr) else some ⟨g, j, none⟩) = some A ∧ Hid (∀ t u, news[t]? = some u → w.drew.cell? (A.add t) = some u) := by
    by_cases h : c = j
    · refine ⟨⟨g, 0, none⟩, by simp [h], fun t u hu => ?_⟩
      have h0 : news.length = 0 := by omega
      rw [List.length_eq_zero_iff.1 h0] at hu
      simp at hu
    · refine ⟨⟨g, j, none⟩, by simp [h], fun t u hu => ?_⟩
      have ht := (List.getElem?_eq_some_iff.1 hu).1
      rw [hnews, List.getElem?_drop] at hu
      rw [addr_add']
      show w.cell? _ = _
      have hlt := (List.getElem?_eq_some_iff.1 hu).1
      rw [hown.cellAt _ (by omega)]
      rw [Nat.mul_one] at hu; exact hu
  have s1 : Hid (news.length = (n - j) * 1) := hlen
  have s2 : Hid (∀ u ∈ news, u.oneCell' = true) := fun u hu => h1 u (by rw [hnews] at hu; exact List.mem_of_mem_drop hu)
  have s3 : Hid (∀ t, t < news.length → (w.drew.cell? ⟨g, 0 + i * 1 + t, none⟩).isSome = true ∧ w.drew.frozen? ⟨g, 0 + i * 1 + t, none⟩ = false) := by
    intro t ht
    rw [hlen] at ht
    obtain ⟨u, hu⟩ := hcell (0 + i * 1 + t) (by omega)
    exact ⟨by show (w.cell? _).isSome = true; rw [hu]; rfl, hown.frozenAt _⟩
  obtain ⟨W1, hW1⟩ : ∃ W1, W1 = w.drew.setCells g (0 + i * 1) news := ⟨_, rfl⟩
  have ho1 : W1.ownsRow 0 69 1 (.slice (some ⟨g, 0, none⟩) n c) n (layL xs (0 + i * 1) news) := by rw [hW1]; exact own_setCells news (0 + i * 1) hown.drew
  have hl1 : (layL xs (0 + i * 1) news).length = n * 1 := by rw [layL_length, hxl]
  have hlast : i + (n - j) = n - 1 := by omega
  have hcl : ∀ ty k, (Builtin.clear_ #[77] ty #[.slice (some ⟨g, (n - 1), none⟩) (n - (n - 1)) k]).run Try.prog W1 = .ok (.tuple #[]) (W1.setCells g ((n - 1)) [.pointer none]) := fun ty k => by
    rw [show n - (n - 1) = 1 by omega]
    refine run_clear_one W1 77 69 ty (.pointer none) [.pointer none] Try.underlying77 (fun w => Try.zeroValue69 w) rfl (by simp) (by simp [Value.oneCell']) g ((n - 1)) k (fun t ht => ?_) (fun t _ => ho1.frozenAt _)
    have ht : t < 1 := ht
    rw [ho1.cellAt _ (by omega), List.getElem?_eq_getElem (by omega)]; rfl
  have hgw := setCells_grown g news (0 + i * 1) w.drew
  rw [← hW1] at hgw
  have HO := hide ho1
  have hW : Hid (W1 = w.drew.setCells g (0 + i * 1) news) := hW1
  have HG := hide hgw
  have HN := hide hnews
  have HX := hide hxl
  have HL := hide hlen
  have HJ := hide hij
  have hic : i ≤ c := by omega
  have hjc : j ≤ c := by omega
  have hjn : j ≤ n := by omega
  have hne : ¬ ((i : Int) = (j : Int)) := by omega
  have hl3 : n - (i + (n - j)) = 1 := by omega
  have hij' : i ≤ j := by omega
  clear hW1 ho1 hgw hnews hxl hlen hcell hown h1 hcur hl1 hij
  go_enter Try.func86, Try.ntmps86
  go_wp2_with fail
  go_region_law (refine step_append_room rfl (.tmp 22) (.tmp 25) 77 rfl 69 i0 1 Try.underlying77 hi0 hz1 g 0 i c (by simp [Act.eval, Act.put]) A (n - j) (c - j) news (by simp [Act.eval, Act.put]) s1.out hsrc.out s2.out (by omega) s3.out ?_; rw [← hW.out])
  go_wp2_with fail
  go_ret
  have ho2 := own_cut (own_setCells [.pointer none] ((n - 1)) HO.out) (m := n - 1) (by omega)
  have hg2 := setCells_grown g [.pointer none] ((n - 1)) W1
  have hx := HX.out
  have hj := HJ.out
  refine ⟨rfl, ?_, ⟨hg2.1.os.trans HG.out.1.os, hg2.1.tape.trans (HG.out.1.tape.trans ?_), hg2.1.output.trans HG.out.1.output, ?_, fun b hb hn => (hg2.1.block b (by rw [HG.out.2]; exact hb) hn).trans (HG.out.1.block b hb hn)⟩, by rw [hg2.2, HG.out.2]; rfl⟩
  · have e : (layL (layL xs (0 + i * 1) news) ((n - 1)) [.pointer none]).take ((n - 1) * 1) = xs.take (i * 1) ++ xs.drop ((i + 1) * 1) := by
      rw [layL_eq _ _ _ (by rw [layL_length]; simp; omega), layL_eq _ _ _ (by rw [HL.out]; omega), HN.out, hj]
      rw [List.append_assoc (List.take _ (_ ++ _)), List.take_append_of_le_length (by simp; omega), List.take_take, Nat.min_eq_left (by omega), List.take_append_of_le_length (by simp; omega), List.take_of_length_le (by simp; omega)]
      rw [Nat.zero_add]
    rw [e] at ho2
    exact ho2
  · rfl
  · rw [hg2.2, HG.out.2]; exact Nat.le_refl _
end Go.Proofs.Ytobgcaemnpkbmaa
namespace Go.Proofs.Ytobgcaemnpkbmaa
open Go.RowKit
theorem Dom.moved {ρ : Roles} {nb : Int → Nat} {mb : Nat} {rt : Option Nat} {w : World} {q : Nat} {R : List RN} {last : Int} (h : Dom ρ nb mb rt w q R last) (hI : Ids R) {k t : Nat} (hk : k < R.length) (ht : t < R.length) (hne : R[t].id ≠ R[k].id) {av kv : Value} (hP : PNode ρ nb w R R[t] av kv)
    {R' : List RN} {np : Int} (hIds' : Ids R') (hin : { R[k] with par := np } ∈ R') (hsame : ∀ i, (∃ m, m ∈ R' ∧ m.id = i) ↔ (∃ m, m ∈ R ∧ m.id = i)) (hlen : R'.length = R.length) (hmem : ∀ m, m ∈ R' → m ∈ R ∨ m = { R[k] with par := np }) (hkk : kidIds R' R[k].id = kidIds R R[k].id) (hko : ∀ m, m ∈ R → m.id ≠ R[k].id → m.id ≠ R[t].id → kidIds R' m.id = kidIds R m.id) {L : List Int} (hL : kidIds R' R[t].id = L) {w2 : World} {v' : Value} (hs : w.heap.size ≤ w2.heap.size) (ho : w2.os = w.os ∧ w2.tape = w.tape ∧ w2.output = w.output)
    (hblk : ∀ b, b < w.heap.size → some b ≠ kv.ownBlock → w2.heap[b]? = w.heap[b]?) (hrow : w2.ownsRow 0 69 1 v' L.length (ptrsOf nb L)) (hv : ∀ b, v'.ownBlock = some b → kv.ownBlock = some b ∨ w.heap.size ≤ b) :
    ∃ ρ', Wrote ρ ρ' w ((w2.setCell ⟨nb R[t].id, 6, none⟩ v').setCell ⟨nb R[k].id, 5, none⟩ (parPtr nb np)) ∧ Dom ρ' nb mb rt ((w2.setCell ⟨nb R[t].id, 6, none⟩ v').setCell ⟨nb R[k].id, 5, none⟩ (parPtr nb np)) q R' last := by
  obtain ⟨avk, kvk, hPk⟩ := h.node _ (List.getElem_mem hk)
  have hpk : (0 : Int) < R[k].id := hI.pos _ (List.getElem_mem hk)
  have hpt : (0 : Int) < R[t].id := hI.pos _ (List.getElem_mem ht)
  have hnn : nb R[t].id ≠ nb R[k].id := fun e => hne (hP.nb_inj hPk e)
  -- the heap then
  have hF : ∀ b, b ≠ nb R[t].id → b ≠ nb R[k].id → ((w2.setCell ⟨nb R[t].id, 6, none⟩ v').setCell ⟨nb R[k].id, 5, none⟩ (parPtr nb np)).heap[b]? = w2.heap[b]? := fun b h1 h2 =>
    (Below.heap_setCell _ _ _ _ h2).trans (Below.heap_setCell _ _ _ _ h1)
  have hold : ∀ b r, ρ b = some r → b ≠ nb R[t].id → b ≠ nb R[k].id → some b ≠ kv.ownBlock → ((w2.setCell ⟨nb R[t].id, 6, none⟩ v').setCell ⟨nb R[k].id, 5, none⟩ (parPtr nb np)).heap[b]? = w.heap[b]? := fun b r e h1 h2 h3 =>
    (hF b h1 h2).trans (hblk b (h.low b (by rw [e]; rfl)) h3)
  have hkvr : ∀ b r, ρ b = some r → r ≠ (R[t].id, 2) → some b ≠ kv.ownBlock := fun b r e hr h2 => by
    rw [hP.krole b h2.symm] at e
    exact hr (Option.some.inj e).symm
  have htr : ∀ b r, ρ b = some r → r ≠ (R[t].id, 0) → b ≠ nb R[t].id := fun b r e hr h2 => by
    subst h2
    rw [hP.role] at e
    exact hr (Option.some.inj e).symm
  have hkr : ∀ b r, ρ b = some r → r ≠ (R[k].id, 0) → b ≠ nb R[k].id := fun b r e hr h2 => by
    subst h2
    rw [hPk.role] at e
    exact hr (Option.some.inj e).symm
  have hvρ : ∀ b, v'.ownBlock = some b → (ρ b).isSome = true → ρ b = some (R[t].id, 2) := fun b e hsb => by
    rcases hv b e with e2 | e2
    · exact hP.krole b e2
    · have := h.low b hsb; omega
  have hρ : ∀ b, (ρ b).isSome = true → (if v'.ownBlock = some b then some (R[t].id, 2) else ρ b) = ρ b := fun b hsb => by
    by_cases e : v'.ownBlock = some b
    · rw [if_pos e, hvρ b e hsb]
    · rw [if_neg e]
  have hszF : ((w2.setCell ⟨nb R[t].id, 6, none⟩ v').setCell ⟨nb R[k].id, 5, none⟩ (parPtr nb np)).heap.size = w2.heap.size := by rw [size_setCell', size_setCell']
  refine ⟨fun b => if v'.ownBlock = some b then some (R[t].id, 2) else ρ b, ⟨⟨ho.1, ho.2.1, ho.2.2, by rw [hszF]; exact hs, fun b hb hn => ?_⟩, hρ, fun b hsb => ?_⟩, ⟨?_, ?_, ?_, ?_, fun m hm => ?_, fun b hsb => ?_, by rw [hlen]; exact h.few⟩⟩
  · refine (hF b (fun e => hn (by rw [e, hP.role]; rfl)) (fun e => hn (by rw [e, hPk.role]; rfl))).trans (hblk b hb (fun e => hn (by rw [hP.krole b e.symm]; rfl)))
  · by_cases e : v'.ownBlock = some b
    · rcases hv b e with e2 | e2
      · exact .inl (by rw [hP.krole b e2]; rfl)
      · exact .inr e2
    · replace hsb : (if v'.ownBlock = some b then some (R[t].id, 2) else ρ b).isSome = true := hsb
      rw [if_neg e] at hsb; exact .inl hsb
  · exact (hold q _ h.role (htr q _ h.role (fun e => by have := (Prod.mk.inj e).1; omega)) (hkr q _ h.role (fun e => by have := (Prod.mk.inj e).1; omega)) (hkvr q _ h.role (fun e => by have := (Prod.mk.inj e).1; omega))).trans h.blk
  · exact (hρ q (by rw [h.role]; rfl)).trans h.role
  · exact (hρ mb (by rw [h.mrole]; rfl)).trans h.mrole
  · rw [hlen, blkOf_same hsame]
    exact h.map.heap (hold mb _ h.mrole (htr mb _ h.mrole (fun e => by have := (Prod.mk.inj e).1; omega)) (hkr mb _ h.mrole (fun e => by have := (Prod.mk.inj e).1; omega)) (hkvr mb _ h.mrole (fun e => by have := (Prod.mk.inj e).1; omega)))
  · by_cases e1 : m.id = R[k].id
    · have em : m = { R[k] with par := np } := mem_one hIds' hm hin e1
      subst em
      have hb0 : w2.heap[nb R[k].id]? = w.heap[nb R[k].id]? := hblk _ hPk.lt (hkvr _ _ hPk.role (fun e => by have := (Prod.mk.inj e).2; omega))
      have hb1 : (w2.setCell ⟨nb R[t].id, 6, none⟩ v').heap[nb R[k].id]? = some (.cells (nodeCells nb R[k] avk kvk) 79 (0, 0)) := (Below.heap_setCell _ _ _ _ (Ne.symm hnn)).trans (hb0.trans hPk.blk)
      have hb2 := set_blk (i := 5) hb1 (parPtr nb np)
      refine ⟨avk, kvk, ⟨?_, ?_, ?_, ?_, ?_, ?_, hPk.few, hPk.rise, hPk.tag, hPk.text, hPk.size⟩⟩
      · rw [hb2]
        rfl
      · exact (hρ _ (by rw [hPk.role]; rfl)).trans hPk.role
      · exact own_heap hPk.arow fun b e => hold b _ (hPk.arole b e) (htr b _ (hPk.arole b e) (fun e => by have := (Prod.mk.inj e).2; omega)) (hkr b _ (hPk.arole b e) (fun e => by have := (Prod.mk.inj e).2; omega)) (hkvr b _ (hPk.arole b e) (fun e => by have := (Prod.mk.inj e).2; omega))
      · exact fun b e => (hρ b (by rw [hPk.arole b e]; rfl)).trans (hPk.arole b e)
      · show World.ownsRow _ _ _ _ kvk (kidIds R' R[k].id).length (ptrsOf nb (kidIds R' R[k].id))
        rw [hkk]
        exact own_heap hPk.krow fun b e => hold b _ (hPk.krole b e) (htr b _ (hPk.krole b e) (fun e => by have := (Prod.mk.inj e).2; omega)) (hkr b _ (hPk.krole b e) (fun e => by have := (Prod.mk.inj e).2; omega)) (hkvr b _ (hPk.krole b e) (fun e => hne (Prod.mk.inj e).1.symm))
      · exact fun b e => (hρ b (by rw [hPk.krole b e]; rfl)).trans (hPk.krole b e)
    · have hmR : m ∈ R := by
        rcases hmem m hm with h | h
        · exact h
        · subst h; exact absurd rfl e1
      by_cases e2 : m.id = R[t].id
      · have em : m = R[t] := mem_one hI hmR (List.getElem_mem ht) e2
        subst em
        have hb0 : w2.heap[nb R[t].id]? = some (.cells (nodeCells nb R[t] av kv) 79 (0, 0)) := (hblk _ hP.lt (hkvr _ _ hP.role (fun e => by have := (Prod.mk.inj e).2; omega))).trans hP.blk
        have hb1 := set_blk (i := 6) hb0 v'
        refine ⟨av, v', ⟨?_, ?_, ?_, ?_, ?_, ?_, hP.few, hP.rise, hP.tag, hP.text, hP.size⟩⟩
        · rw [Below.heap_setCell _ _ _ _ hnn, hb1]
          rfl
        · exact (hρ _ (by rw [hP.role]; rfl)).trans hP.role
        · exact own_heap hP.arow fun b e => hold b _ (hP.arole b e) (htr b _ (hP.arole b e) (fun e => by have := (Prod.mk.inj e).2; omega)) (hkr b _ (hP.arole b e) (fun e => by have := (Prod.mk.inj e).2; omega)) (hkvr b _ (hP.arole b e) (fun e => by have := (Prod.mk.inj e).2; omega))
        · exact fun b e => (hρ b (by rw [hP.arole b e]; rfl)).trans (hP.arole b e)
        · rw [hL]
          refine own_heap hrow fun b e => hF b (fun e2 => ?_) (fun e2 => ?_)
          · subst e2
            have := hvρ _ e (by rw [hP.role]; rfl)
            rw [hP.role] at this
            have := (Prod.mk.inj (Option.some.inj this)).2
            omega
          · subst e2
            have := hvρ _ e (by rw [hPk.role]; rfl)
            rw [hPk.role] at this
            have := (Prod.mk.inj (Option.some.inj this)).2
            omega
        · intro b e
          show (if v'.ownBlock = some b then some (R[t].id, 2) else ρ b) = _
          rw [if_pos e]
      · obtain ⟨avm, kvm, hPm⟩ := h.node m hmR
        refine ⟨avm, kvm, hPm.kept (fun b j e => hold b _ e (htr b _ e (fun x => e2 (Prod.mk.inj x).1)) (hkr b _ e (fun x => e1 (Prod.mk.inj x).1)) (hkvr b _ e (fun x => e2 (Prod.mk.inj x).1))) hρ ?_⟩
        exact hko m hmR e1 e2
  · rw [hszF]
    by_cases e : v'.ownBlock = some b
    · exact Nat.lt_of_lt_of_le (hrow.lt b e).2 (Nat.le_refl _)
    · replace hsb : (if v'.ownBlock = some b then some (R[t].id, 2) else ρ b).isSome = true := hsb
      rw [if_neg e] at hsb; exact Nat.lt_of_lt_of_le (h.low b hsb) hs
theorem loose_mem {R : List RN} {k : Nat} (hk : k < R.length) {m : RN} (h : m ∈ looseP R k) : m ∈ R ∨ m = { R[k] with par := 0 } := by
  rw [looseP_lt hk] at h
  exact List.mem_or_eq_of_mem_set h
theorem loose_in {R : List RN} {k : Nat} (hk : k < R.length) : { R[k] with par := 0 } ∈ looseP R k := by
  rw [looseP_lt hk]
  exact List.mem_set hk _
theorem loose_length {R : List RN} {k : Nat} (hk : k < R.length) : (looseP R k).length = R.length := by rw [looseP_lt hk, List.length_set]
theorem loose_ids {R : List RN} {k : Nat} (hI : Ids R) (hk : k < R.length) : Ids (looseP R k) := by rw [looseP_lt hk]; exact set_ids hI hk rfl
theorem loose_same {R : List RN} {k : Nat} (hk : k < R.length) : ∀ i, (∃ m, m ∈ looseP R k ∧ m.id = i) ↔ (∃ m, m ∈ R ∧ m.id = i) := by
  intro i
  constructor
  · rintro ⟨m, hm, e⟩
    rcases loose_mem hk hm with h | rfl
    · exact ⟨m, h, e⟩
    · exact ⟨R[k], List.getElem_mem hk, e⟩
  · rintro ⟨m, hm, e⟩
    obtain ⟨j, hj, rfl⟩ := List.getElem_of_mem hm
    by_cases hjk : j = k
    · subst hjk
      exact ⟨_, loose_in hj, e⟩
    · refine ⟨R[j], ?_, e⟩
      rw [looseP_lt hk]
      exact List.mem_iff_getElem.2 ⟨j, by rw [List.length_set]; exact hj, by rw [List.getElem_set_ne (fun h => hjk h.symm)]⟩
theorem loose_self {R : List RN} {k : Nat} (hk : k < R.length) (h0 : R[k].par = 0) : looseP R k = R := by
  rw [looseP_lt hk]
  apply List.ext_getElem
  · rw [List.length_set]
  · intro i h1 h2
    rw [List.getElem_set]
    split
    · rename_i e
      subst e
      rw [← h0]
    · rfl
end Go.Proofs.Ytobgcaemnpkbmaa
