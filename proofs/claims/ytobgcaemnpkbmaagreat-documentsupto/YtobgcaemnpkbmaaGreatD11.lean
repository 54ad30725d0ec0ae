/- Lv Lvw Isin Wr -/
import Derived.Test.YtobgcaemnpkbmaaGreatD10
import Derived.Test.YtobgcaemnpkbmaaGreatD07
import Derived.BigQuiet
namespace Go.Proofs.YtobgcaemnpkbmaaGreat
open Go.RowKit
theorem Dom.moved {ρ : Roles} {nb : Int → Nat} {mb : Nat} {rt : Option Nat} {w : World} {q : Nat} {R : List RN} {last : Int} (h : Dom ρ nb mb rt w q R last) (hI : Ids R) {k t : Nat} (hk : k < R.length) (ht : t < R.length) (hne : R[t].id ≠ R[k].id) {av kv : Value} (hP : PNode ρ nb w R R[t] av kv)
    {R' : List RN} {np : Int} (hIds' : Ids R') (hin : { R[k] with par := np } ∈ R') (hsame : ∀ i, (∃ m, m ∈ R' ∧ m.id = i) ↔ (∃ m, m ∈ R ∧ m.id = i)) (hlen : R'.length = R.length) (hmem : ∀ m, m ∈ R' → m ∈ R ∨ m = { R[k] with par := np }) (hkk : kidIds R' R[k].id = kidIds R R[k].id) (hko : ∀ m, m ∈ R → m.id ≠ R[k].id → m.id ≠ R[t].id → kidIds R' m.id = kidIds R m.id) {L : List Int} (hL : kidIds R' R[t].id = L) {w2 : World} {v' : Value} (hs : w.heap.size ≤ w2.heap.size) (ho : w2.os = w.os ∧ w2.tape = w.tape ∧ w2.output = w.output)
    (hblk : ∀ b, b < w.heap.size → some b ≠ kv.ownBlock → w2.heap[b]? = w.heap[b]?) (hrow : w2.ownsRow 0 112 1 v' L.length (ptrsOf nb L)) (hv : ∀ b, v'.ownBlock = some b → kv.ownBlock = some b ∨ w.heap.size ≤ b) :
    ∃ ρ', Wrote ρ ρ' w ((w2.setCell ⟨nb R[t].id, 6, none⟩ v').setCell ⟨nb R[k].id, 5, none⟩ (parPtr nb np)) ∧ Dom ρ' nb mb rt ((w2.setCell ⟨nb R[t].id, 6, none⟩ v').setCell ⟨nb R[k].id, 5, none⟩ (parPtr nb np)) q R' last := by
  obtain ⟨avk, kvk, hPk⟩ := h.node _ (List.getElem_mem hk)
  have hpk : (0 : Int) < R[k].id := hI.pos _ (List.getElem_mem hk)
  have hpt : (0 : Int) < R[t].id := hI.pos _ (List.getElem_mem ht)
  have hnn : nb R[t].id ≠ nb R[k].id := fun e => hne (hP.nb_inj hPk e)
  -- the heap then
  have hF : ∀ b, b ≠ nb R[t].id → b ≠ nb R[k].id → ((w2.setCell ⟨nb R[t].id, 6, none⟩ v').setCell ⟨nb R[k].id, 5, none⟩ (parPtr nb np)).heap[b]? = w2.heap[b]? := fun b h1 h2 =>
    (Below.heap_setCell _ _ _ _ h2).trans (Below.heap_setCell _ _ _ _ h1)
  have hold : ∀ b r, ρ b = some r → b ≠ nb R[t].id → b ≠ nb R[k].id → some b ≠ kv.ownBlock → ((w2.setCell ⟨nb R[t].id, 6, none⟩ v').setCell ⟨nb R[k].id, 5, none⟩ (parPtr nb np)).heap[b]? = w.heap[b]? := fun b r e h1 h2 h3 =>
    (hF b h1 h2).trans (hblk b (h.low b (by rw [e]; rfl)) h3)
  have hkvr : ∀ b r, ρ b = some r → r ≠ (R[t].id, 2) → some b ≠ kv.ownBlock := fun b r e hr h2 => by
    rw [hP.krole b h2.symm] at e
    exact hr (Option.some.inj e).symm
  have htr : ∀ b r, ρ b = some r → r ≠ (R[t].id, 0) → b ≠ nb R[t].id := fun b r e hr h2 => by
    subst h2
    rw [hP.role] at e
    exact hr (Option.some.inj e).symm
  have hkr : ∀ b r, ρ b = some r → r ≠ (R[k].id, 0) → b ≠ nb R[k].id := fun b r e hr h2 => by
    subst h2
    rw [hPk.role] at e
    exact hr (Option.some.inj e).symm
  have hvρ : ∀ b, v'.ownBlock = some b → (ρ b).isSome = true → ρ b = some (R[t].id, 2) := fun b e hsb => by
    rcases hv b e with e2 | e2
    · exact hP.krole b e2
    · have := h.low b hsb; omega
  have hρ : ∀ b, (ρ b).isSome = true → (if v'.ownBlock = some b then some (R[t].id, 2) else ρ b) = ρ b := fun b hsb => by
    by_cases e : v'.ownBlock = some b
    · rw [if_pos e, hvρ b e hsb]
    · rw [if_neg e]
  have hszF : ((w2.setCell ⟨nb R[t].id, 6, none⟩ v').setCell ⟨nb R[k].id, 5, none⟩ (parPtr nb np)).heap.size = w2.heap.size := by rw [size_setCell', size_setCell']
  refine ⟨fun b => if v'.ownBlock = some b then some (R[t].id, 2) else ρ b, ⟨⟨ho.1, ho.2.1, ho.2.2, by rw [hszF]; exact hs, fun b hb hn => ?_⟩, hρ, fun b hsb => ?_⟩, ⟨?_, ?_, ?_, ?_, fun m hm => ?_, fun b hsb => ?_, by rw [hlen]; exact h.few⟩⟩
  · refine (hF b (fun e => hn (by rw [e, hP.role]; rfl)) (fun e => hn (by rw [e, hPk.role]; rfl))).trans (hblk b hb (fun e => hn (by rw [hP.krole b e.symm]; rfl)))
  · by_cases e : v'.ownBlock = some b
    · rcases hv b e with e2 | e2
      · exact .inl (by rw [hP.krole b e2]; rfl)
      · exact .inr e2
    · replace hsb : (if v'.ownBlock = some b then some (R[t].id, 2) else ρ b).isSome = true := hsb
      rw [if_neg e] at hsb; exact .inl hsb
  · exact (hold q _ h.role (htr q _ h.role (fun e => by have := (Prod.mk.inj e).1; omega)) (hkr q _ h.role (fun e => by have := (Prod.mk.inj e).1; omega)) (hkvr q _ h.role (fun e => by have := (Prod.mk.inj e).1; omega))).trans h.blk
  · exact (hρ q (by rw [h.role]; rfl)).trans h.role
  · exact (hρ mb (by rw [h.mrole]; rfl)).trans h.mrole
  · rw [hlen, blkOf_same hsame]
    exact h.map.heap (hold mb _ h.mrole (htr mb _ h.mrole (fun e => by have := (Prod.mk.inj e).1; omega)) (hkr mb _ h.mrole (fun e => by have := (Prod.mk.inj e).1; omega)) (hkvr mb _ h.mrole (fun e => by have := (Prod.mk.inj e).1; omega)))
  · by_cases e1 : m.id = R[k].id
    · have em : m = { R[k] with par := np } := mem_one hIds' hm hin e1
      subst em
      have hb0 : w2.heap[nb R[k].id]? = w.heap[nb R[k].id]? := hblk _ hPk.lt (hkvr _ _ hPk.role (fun e => by have := (Prod.mk.inj e).2; omega))
      have hb1 : (w2.setCell ⟨nb R[t].id, 6, none⟩ v').heap[nb R[k].id]? = some (.cells (nodeCells nb R[k] avk kvk) 138 (0, 0)) := (Below.heap_setCell _ _ _ _ (Ne.symm hnn)).trans (hb0.trans hPk.blk)
      have hb2 := set_blk (i := 5) hb1 (parPtr nb np)
      refine ⟨avk, kvk, ⟨?_, ?_, ?_, ?_, ?_, ?_, hPk.few, hPk.rise, hPk.tag, hPk.text, hPk.size⟩⟩
      · rw [hb2]
        rfl
      · exact (hρ _ (by rw [hPk.role]; rfl)).trans hPk.role
      · exact own_heap hPk.arow fun b e => hold b _ (hPk.arole b e) (htr b _ (hPk.arole b e) (fun e => by have := (Prod.mk.inj e).2; omega)) (hkr b _ (hPk.arole b e) (fun e => by have := (Prod.mk.inj e).2; omega)) (hkvr b _ (hPk.arole b e) (fun e => by have := (Prod.mk.inj e).2; omega))
      · exact fun b e => (hρ b (by rw [hPk.arole b e]; rfl)).trans (hPk.arole b e)
      · show World.ownsRow _ _ _ _ kvk (kidIds R' R[k].id).length (ptrsOf nb (kidIds R' R[k].id))
        rw [hkk]
        exact own_heap hPk.krow fun b e => hold b _ (hPk.krole b e) (htr b _ (hPk.krole b e) (fun e => by have := (Prod.mk.inj e).2; omega)) (hkr b _ (hPk.krole b e) (fun e => by have := (Prod.mk.inj e).2; omega)) (hkvr b _ (hPk.krole b e) (fun e => hne (Prod.mk.inj e).1.symm))
      · exact fun b e => (hρ b (by rw [hPk.krole b e]; rfl)).trans (hPk.krole b e)
    · have hmR : m ∈ R := by
        rcases hmem m hm with h | h
        · exact h
        · subst h; exact absurd rfl e1
      by_cases e2 : m.id = R[t].id
      · have em : m = R[t] := mem_one hI hmR (List.getElem_mem ht) e2
        subst em
        have hb0 : w2.heap[nb R[t].id]? = some (.cells (nodeCells nb R[t] av kv) 138 (0, 0)) := (hblk _ hP.lt (hkvr _ _ hP.role (fun e => by have := (Prod.mk.inj e).2; omega))).trans hP.blk
        have hb1 := set_blk (i := 6) hb0 v'
        refine ⟨av, v', ⟨?_, ?_, ?_, ?_, ?_, ?_, hP.few, hP.rise, hP.tag, hP.text, hP.size⟩⟩
        · rw [Below.heap_setCell _ _ _ _ hnn, hb1]
          rfl
        · exact (hρ _ (by rw [hP.role]; rfl)).trans hP.role
        · exact own_heap hP.arow fun b e => hold b _ (hP.arole b e) (htr b _ (hP.arole b e) (fun e => by have := (Prod.mk.inj e).2; omega)) (hkr b _ (hP.arole b e) (fun e => by have := (Prod.mk.inj e).2; omega)) (hkvr b _ (hP.arole b e) (fun e => by have := (Prod.mk.inj e).2; omega))
        · exact fun b e => (hρ b (by rw [hP.arole b e]; rfl)).trans (hP.arole b e)
        · rw [hL]
          refine own_heap hrow fun b e => hF b (fun e2 => ?_) (fun e2 => ?_)
          · subst e2
            have := hvρ _ e (by rw [hP.role]; rfl)
            rw [hP.role] at this
            have := (Prod.mk.inj (Option.some.inj this)).2
            omega
          · subst e2
            have := hvρ _ e (by rw [hPk.role]; rfl)
            rw [hPk.role] at this
            have := (Prod.mk.inj (Option.some.inj this)).2
            omega
        · intro b e
          show (if v'.ownBlock = some b then some (R[t].id, 2) else ρ b) = _
          rw [if_pos e]
      · obtain ⟨avm, kvm, hPm⟩ := h.node m hmR
        refine ⟨avm, kvm, hPm.kept (fun b j e => hold b _ e (htr b _ e (fun x => e2 (Prod.mk.inj x).1)) (hkr b _ e (fun x => e1 (Prod.mk.inj x).1)) (hkvr b _ e (fun x => e2 (Prod.mk.inj x).1))) hρ ?_⟩
        exact hko m hmR e1 e2
  · rw [hszF]
    by_cases e : v'.ownBlock = some b
    · exact Nat.lt_of_lt_of_le (hrow.lt b e).2 (Nat.le_refl _)
    · replace hsb : (if v'.ownBlock = some b then some (R[t].id, 2) else ρ b).isSome = true := hsb
      rw [if_neg e] at hsb; exact Nat.lt_of_lt_of_le (h.low b hsb) hs
theorem loose_mem {R : List RN} {k : Nat} (hk : k < R.length) {m : RN} (h : m ∈ looseP R k) : m ∈ R ∨ m = { R[k] with par := 0 } := by
  rw [looseP_lt hk] at h
  exact List.mem_or_eq_of_mem_set h
theorem loose_in {R : List RN} {k : Nat} (hk : k < R.length) : { R[k] with par := 0 } ∈ looseP R k := by
  rw [looseP_lt hk]
  exact List.mem_set hk _
theorem loose_length {R : List RN} {k : Nat} (hk : k < R.length) : (looseP R k).length = R.length := by rw [looseP_lt hk, List.length_set]
theorem loose_ids {R : List RN} {k : Nat} (hI : Ids R) (hk : k < R.length) : Ids (looseP R k) := by rw [looseP_lt hk]; exact set_ids hI hk rfl
theorem loose_same {R : List RN} {k : Nat} (hk : k < R.length) : ∀ i, (∃ m, m ∈ looseP R k ∧ m.id = i) ↔ (∃ m, m ∈ R ∧ m.id = i) := by
  intro i
  constructor
  · rintro ⟨m, hm, e⟩
    rcases loose_mem hk hm with h | rfl
    · exact ⟨m, h, e⟩
    · exact ⟨R[k], List.getElem_mem hk, e⟩
  · rintro ⟨m, hm, e⟩
    obtain ⟨j, hj, rfl⟩ := List.getElem_of_mem hm
    by_cases hjk : j = k
    · subst hjk
      exact ⟨_, loose_in hj, e⟩
    · refine ⟨R[j], ?_, e⟩
      rw [looseP_lt hk]
      exact List.mem_iff_getElem.2 ⟨j, by rw [List.length_set]; exact hj, by rw [List.getElem_set_ne (fun h => hjk h.symm)]⟩
theorem loose_self {R : List RN} {k : Nat} (hk : k < R.length) (h0 : R[k].par = 0) : looseP R k = R := by
  rw [looseP_lt hk]
  apply List.ext_getElem
  · rw [List.length_set]
  · intro i h1 h2
    rw [List.getElem_set]
    split
    · rename_i e
      subst e
      rw [← h0]
    · rfl
end Go.Proofs.YtobgcaemnpkbmaaGreat
namespace Go.Proofs.YtobgcaemnpkbmaaGreat
open Go.RowKit
set_option maxHeartbeats 2000000 in
set_option maxRecDepth 100000 in
theorem leave_any (ρ : Roles) (nb : Int → Nat) (mb : Nat) (rt : Option Nat) (w : World) (q : Nat) (R : List RN) (last : Int) (h : Dom ρ nb mb rt w q R last) (hI : Ids R) (hU : ∃ rk, Up R rk) (k : Nat) (hk : k < R.length) :
    Calls Tryz.prog 104 #[.pointer (some ⟨nb R[k].id, 0, none⟩)] w fun e w' => e = .returned (.tuple #[]) ∧ ∃ ρ', Wrote ρ ρ' w w' ∧ Dom ρ' nb mb rt w' q (looseP R k) last := by
  obtain ⟨rk, hU⟩ := hU
  obtain ⟨avk, kvk, hPk⟩ := h.node _ (List.getElem_mem hk)
  by_cases h0 : R[k].par = 0
  · have c5 : w.cell? ⟨nb R[k].id, 5, none⟩ = some (.pointer none) := by
      have := cell_of_blk hPk.blk 5 (parPtr nb R[k].par) rfl
      unfold parPtr at this
      rwa [if_pos h0] at this
    have HD : Hid (∃ ρ', Wrote ρ ρ' w w ∧ Dom ρ' nb mb rt w q (looseP R k) last) := hide ⟨ρ, ⟨Touch.of_below (Below.refl _ _), fun _ _ => rfl, fun _ h => .inl h⟩, by rw [loose_self hk h0]; exact h⟩
    clear h hPk
    go_enter Tryz.func104, Tryz.ntmps104
    go_wp2_with fail
    refine bodyPost_ret (results_none rfl _ _ _) rfl ?_
    exact ⟨rfl, HD.out⟩
  · obtain ⟨m, hm, hmp⟩ := (hU.par _ (List.getElem_mem hk)).resolve_left h0
    obtain ⟨t, ht, rfl⟩ := List.getElem_of_mem hm
    obtain ⟨av, kv, hP⟩ := h.node _ hm
    have hne : R[t].id ≠ R[k].id := fun e => by
      have := hU.rank _ (List.getElem_mem hk) h0
      rw [← hmp, e] at this
      omega
    have hpt : (0 : Int) < R[t].id := hI.pos _ hm
    have hpk : (0 : Int) < R[k].id := hI.pos _ (List.getElem_mem hk)
    have hlenK := kidIds_length R R[t].id
    have hfew := h.few
    obtain ⟨i, hiK, higet, hifst, hL⟩ := loose_kids hI hk (q := R[t].id) (by omega) hmp.symm
    obtain ⟨g, kc, rfl⟩ : ∃ g kc, kv = .slice (some ⟨g, 0, none⟩) (kidIds R R[t].id).length kc := by
      rcases hP.krow.2 with ⟨_, e⟩ | ⟨g, cap, cur, e, _⟩
      · omega
      · exact ⟨g, cap, e⟩
    have c6 : w.cell? ⟨nb R[t].id, 6, none⟩ = some (.slice (some ⟨g, 0, none⟩) (kidIds R R[t].id).length kc) := cell_of_blk hP.blk 6 _ rfl
    have f6 := frozen_of_blk hP.blk 6
    have c5 : w.cell? ⟨nb R[k].id, 5, none⟩ = some (.pointer (some ⟨nb R[t].id, 0, none⟩)) := by
      have := cell_of_blk hPk.blk 5 (parPtr nb R[k].par) rfl
      unfold parPtr at this
      rwa [if_neg h0, ← hmp] at this
    have f5 := frozen_of_blk hPk.blk 5
    have ltT := hP.lt
    have ltK := hPk.lt
    have hnn : nb R[t].id ≠ nb R[k].id := fun e => hne (hP.nb_inj hPk e)
    have hgT : g ≠ nb R[t].id := fun e => by
      have := hP.krole g rfl
      rw [e, hP.role] at this
      have := (Prod.mk.inj (Option.some.inj this)).2
      omega
    have hgK : g ≠ nb R[k].id := fun e => by
      have := hP.krole g rfl
      rw [e, hPk.role] at this
      have := (Prod.mk.inj (Option.some.inj this)).2
      omega
    have HDel : Hid (Calls Tryz.prog 120 #[.slice (some ⟨g, 0, none⟩) (kidIds R R[t].id).length kc, .int .i64 i, .int .i64 ((i : Int) + 1)] w fun e w' => e = .returned (.slice (some ⟨g, 0, none⟩) ((kidIds R R[t].id).length - 1) kc) ∧
        w'.ownsRow 0 112 1 (.slice (some ⟨g, 0, none⟩) ((kidIds R R[t].id).length - 1) kc) ((kidIds R R[t].id).length - 1) (ptrsOf nb ((kidIds R R[t].id).take i ++ (kidIds R R[t].id).drop (i + 1))) ∧ w.grownBy w' (some g) ∧ w'.heap.size = w.heap.size) := by
      have := delete_ptr g (kidIds R R[t].id).length kc i (i + 1) (ptrsOf nb (kidIds R R[t].id)) w hP.krow hiK rfl (ptrsOf_one _ _)
      rw [Nat.mul_one, Nat.mul_one] at this
      unfold ptrsOf at this ⊢
      rw [List.map_append, List.map_take, List.map_drop]
      exact hide this
    have HIdx : Hid (Calls Tryz.prog 64 #[.slice (some ⟨g, 0, none⟩) (kidIds R R[t].id).length kc, .pointer (some ⟨nb R[k].id, 0, none⟩)] w fun e w' => e = .returned (.int .i64 i) ∧ w = w') := by
      refine hide ((index_any g (kidIds R R[t].id).length kc ((kidIds R R[t].id).map nb) (nb R[k].id) w (by simp) (by omega) i hiK (by rw [List.getElem?_map, higet]; rfl) (fun j hj e => ?_) (fun j y hy => ?_) (fun y hy => ?_)).mono fun _ _ h => ⟨h.1, h.2.symm⟩)
      · rw [List.getElem?_map] at e
        cases hx : (kidIds R R[t].id)[j]? with
        | none => rw [hx] at e; cases e
        | some z =>
          rw [hx] at e
          obtain ⟨m, hm, _, hmz⟩ := kidIds_mem.1 (List.mem_of_getElem? hx)
          obtain ⟨a1, a2, hPm⟩ := h.node m hm
          have e := Option.some.inj e
          rw [← hmz] at e
          exact hifst j hj (by rw [hx, ← hmz, hPm.nb_inj hPk e])
      · rw [hP.krow.cellAt j (by have := (List.getElem?_eq_some_iff.1 hy).1; simp at this; omega)]
        unfold ptrsOf
        rw [List.getElem?_map] at hy ⊢
        cases hx : (kidIds R R[t].id)[j]? with
        | none => rw [hx] at hy; cases hy
        | some z => rw [hx] at hy; cases hy; rfl
      · obtain ⟨z, hz, rfl⟩ := List.mem_map.1 hy
        obtain ⟨m, hm, _, rfl⟩ := kidIds_mem.1 hz
        obtain ⟨a1, a2, hPm⟩ := h.node m hm
        exact hPm.plain
    have HD := hide h
    have HP := hide hP
    have HL := hide hL
    have hi1 : (i : Int) + 1 ≤ 800 := by omega
    have HMp := hide hmp
    clear h hP hPk hL higet hifst hmp
    go_enter Tryz.func104, Tryz.ntmps104
    go_wp2_with (first | (go_at_call 64; refine (unhide HIdx).mono ?_; rintro e w1 ⟨rfl, rfl⟩) | (go_at_call 120; refine (unhide HDel).mono ?_; rintro e w2 ⟨rfl, hrow, hgr, hsz⟩; have hqT : w2.heap[nb R[t].id]? = w.heap[nb R[t].id]? := hgr.block _ ltT (fun e => hgT (Option.some.inj e).symm); have hqK : w2.heap[nb R[k].id]? = w.heap[nb R[k].id]? := hgr.block _ ltK (fun e => hgK (Option.some.inj e).symm); have d6 := (World.cell?_of_block (w := w) (a := ⟨nb R[t].id, 6, none⟩) hqT).trans c6; have g6 := (World.frozen?_of_block (w := w) (a := ⟨nb R[t].id, 6, none⟩) hqT).trans f6; have d5 := (World.cell?_of_block (w := w) (a := ⟨nb R[k].id, 5, none⟩) hqK).trans c5; have g5 := (World.frozen?_of_block (w := w) (a := ⟨nb R[k].id, 5, none⟩) hqK).trans f5; have HRow := hide hrow; have HGr := hide hgr; have HSz := hide hsz; clear hrow hgr hsz hqT hqK))
    go_end0
    have hmp := HMp.out
    refine ⟨rfl, ?_⟩
    have hl2 : ((kidIds R R[t].id).take i ++ (kidIds R R[t].id).drop (i + 1)).length = (kidIds R R[t].id).length - 1 := by simp; omega
    refine Dom.moved (np := 0) HD.out hI hk ht hne HP.out (loose_ids hI hk) (loose_in hk) (loose_same hk) (loose_length hk) (fun m hm => loose_mem hk hm) (loose_other hk (by omega) (fun e => by rw [← hmp] at e; exact hne e)) (fun m hm _ h2 => loose_other hk (by have := hI.pos m hm; omega) (fun e => by rw [← hmp] at e; exact h2 e.symm)) HL.out (Nat.le_of_eq HSz.out.symm) ⟨HGr.out.os, HGr.out.tape, HGr.out.output⟩ (fun b hb hn => HGr.out.block b hb hn) (by rw [hl2]; exact HRow.out) (fun b e => .inl e)
end Go.Proofs.YtobgcaemnpkbmaaGreat
namespace Go.Proofs.YtobgcaemnpkbmaaGreat
open Go.RowKit
theorem isElem_any {ρ : Roles} {nb : Int → Nat} {w : World} {R : List RN} {n : RN} {av kv : Value} (h : PNode ρ nb w R n av kv) :
    Calls Tryz.prog 102 #[.pointer (some ⟨nb n.id, 0, none⟩)] w fun e w' => e = .returned (.bool (!n.tag.toList.isEmpty)) ∧ w' = w := by
  have c2 : w.cell? ⟨nb n.id, 2, none⟩ = some (.string n.tag) := cell_of_blk h.blk 2 _ rfl
  clear h
  cases he : n.tag.toList.isEmpty with
  | true =>
    go_enter Tryz.func102, Tryz.ntmps102
    go_wp2_with fail
    go_ret
    exact ⟨by simp_all, rfl⟩
  | false =>
    go_enter Tryz.func102, Tryz.ntmps102
    go_wp2_with fail
    go_ret
    exact ⟨by simp_all, rfl⟩
def ptrRank (ρ : Roles) (rk : Int → Nat) (v : Value) : Nat := match v with | .pointer (some a) => (match ρ a.block with | some (i, _) => rk i + 1 | none => 0) | _ => 0
theorem ptrRank_some {ρ : Roles} {rk : Int → Nat} {b : Nat} {i : Int} {j : Nat} (h : ρ b = some (i, j)) : ptrRank ρ rk (.pointer (some ⟨b, 0, none⟩)) = rk i + 1 := by unfold ptrRank; simp [h]
theorem ptrRank_none (ρ : Roles) (rk : Int → Nat) : ptrRank ρ rk (.pointer none) = 0 := rfl
set_option maxHeartbeats 1000000 in
theorem isIn_any (ρ : Roles) (nb : Int → Nat) (mb : Nat) (rt : Option Nat) (w : World) (q : Nat) (R : List RN) (last : Int) (h : Dom ρ nb mb rt w q R last) (hI : Ids R) (rk : Int → Nat) (hU : Up R rk) (i j : Nat) (hi : i < R.length) (hj : j < R.length) :
    Calls Tryz.prog 103 #[.pointer (some ⟨nb R[i].id, 0, none⟩), .pointer (some ⟨nb R[j].id, 0, none⟩)] w fun e w' => e = .returned (.bool (inP R (rk R[i].id + 1) R[i].id R[j].id)) ∧ w' = w := by
  obtain ⟨avj, kvj, hPj⟩ := h.node _ (List.getElem_mem hj)
  have hplj := hPj.plain
  have HR := hide h
  have HU := hide hU
  have HI := hide hI
  have HPj := hide hPj
  clear h hU hI hPj
  go_enter Tryz.func103, Tryz.ntmps103
  go_wp2_with fail
  go_loopw [0] (fun v wr => wr = w ∧ ∃ (x : Int) (m : Nat), v = parPtr nb x ∧ Hid (x = 0 ∨ rk x < m) ∧ Hid (x = 0 ∨ ∃ k, ∃ hk : k < R.length, R[k].id = x) ∧ Hid (inP R m x R[j].id = inP R (rk R[i].id + 1) R[i].id R[j].id)) (fun v _ => ptrRank ρ rk v)
  case atStart =>
    have := HI.out.pos _ (List.getElem_mem hi)
    exact ⟨rfl, R[i].id, rk R[i].id + 1, by unfold parPtr; rw [if_neg (by omega)], hide (.inr (Nat.lt_succ_self _)), hide (.inr ⟨i, hi, rfl⟩), rfl⟩
  case round =>
    obtain ⟨rfl, x, m, rfl, hm, hx, hin⟩ := hrel
    by_cases h0 : x = 0
    · subst h0
      have HX : Hid (inP R (rk R[i].id + 1) R[i].id R[j].id = false) := by rw [← hin.out]; exact inP_zero R m _
      have hz : parPtr nb 0 = .pointer none := rfl
      clear hin
      go_wp2_with fail
      go_ret
      exact ⟨ret_bool HX.out.symm, rfl⟩
    · have hm := hm.out.resolve_left h0
      obtain ⟨m, rfl⟩ : ∃ m', m = m' + 1 := ⟨m - 1, by omega⟩
      obtain ⟨k, hk, hxk⟩ := hx.out.resolve_left h0
      obtain ⟨av, kv, hP⟩ := HR.out.node _ (List.getElem_mem hk)
      have hpp : parPtr nb x = .pointer (some ⟨nb R[k].id, 0, none⟩) := by unfold parPtr; rw [if_neg h0, hxk]
      have heq := run_eql_ptr hP.plain hplj
      have c5 : wr.cell? ⟨nb R[k].id, 5, none⟩ = some (parPtr nb R[k].par) := cell_of_blk hP.blk 5 _ rfl
      have HP := hide hP
      have HXk := hide hxk
      clear hP hxk
      rw [hpp]
      by_cases ho : R[k].id = R[j].id
      · have HX : Hid (inP R (rk R[i].id + 1) R[i].id R[j].id = true) := by rw [← hin.out, inP, if_neg h0, if_pos (by rw [← HXk.out]; exact ho)]; exact rfl
        rw [ho, beq_self_eq_true] at heq
        rw [ho] at c5 hpp ⊢
        clear hin ho
        go_wp2_with fail
        go_ret
        exact ⟨ret_bool HX.out.symm, rfl⟩
      · have hnn : (nb R[k].id == nb R[j].id) = false := by
          rw [beq_eq_false_iff_ne]
          exact fun e => ho (HP.out.nb_inj HPj.out e)
        rw [hnn] at heq
        have HX : Hid (inP R m R[k].par R[j].id = inP R (rk R[i].id + 1) R[i].id R[j].id) := by
          have hpo : parOf R x = R[k].par := by
            unfold parOf
            rw [← HXk.out, atP_id HI.out hk]
            exact parAt_lt hk
          rw [← hin.out, inP, if_neg h0, if_neg (fun e => ho (by rw [HXk.out]; exact e)), hpo]
          exact rfl
        have HPar : Hid (R[k].par = 0 ∨ ∃ k', ∃ hk' : k' < R.length, R[k'].id = R[k].par) := by
          rcases HU.out.par R[k] (List.getElem_mem hk) with e | ⟨y, hy, e⟩
          · exact hide (.inl e)
          · obtain ⟨k', hk', rfl⟩ := List.getElem_of_mem hy
            exact hide (.inr ⟨k', hk', e⟩)
        have hrk : R[k].par = 0 ∨ rk R[k].par < rk R[k].id := by
          by_cases e : R[k].par = 0
          · exact .inl e
          · exact .inr (HU.out.rank R[k] (List.getElem_mem hk) e)
        have HRk : Hid (R[k].par = 0 ∨ rk R[k].par < m) := by
          rcases hrk with e | e
          · exact hide (.inl e)
          · have := HXk.out
            rw [this] at e
            exact hide (.inr (by omega))
        have HMs : Hid (ptrRank ρ rk (parPtr nb R[k].par) < ptrRank ρ rk (.pointer (some ⟨nb R[k].id, 0, none⟩))) := by
          rw [ptrRank_some HP.out.role]
          rcases HPar.out with e | ⟨k', hk', e⟩
          · unfold parPtr
            rw [if_pos e, ptrRank_none]
            exact hide (Nat.succ_pos _)
          · obtain ⟨a1, a2, hPk⟩ := HR.out.node _ (List.getElem_mem hk')
            have h3 := HI.out.pos _ (List.getElem_mem hk')
            unfold parPtr
            rw [if_neg (by omega), ← e, ptrRank_some hPk.role, e]
            exact hide (by rcases hrk with h | h; omega; omega)
        clear hin hrk hnn ho
        generalize hpv : parPtr nb R[k].par = pv at *
        have HPV := hide hpv
        clear hpv hpp
        go_wp2_with fail
        go_roundw
        case rel => exact ⟨trivial, R[k].par, m, HPV.out.symm, HRk, HPar, HX⟩
        case measure => exact HMs.out
end Go.Proofs.YtobgcaemnpkbmaaGreat
namespace Go.Proofs.YtobgcaemnpkbmaaGreat
open Go.RowKit
theorem belowD {B : Nat} {w w0 : World} (h : Below B w w0) (n : Nat) : Below B w (w0.drewN n) := ⟨h.os, h.tape, h.output, h.size, h.block⟩
theorem set_same {R : List RN} {k : Nat} {n : RN} (hk : k < R.length) (h1 : n.id = R[k].id) : ∀ i, (∃ m, m ∈ R.set k n ∧ m.id = i) ↔ (∃ m, m ∈ R ∧ m.id = i) := by
  intro i
  constructor
  · rintro ⟨m, hm, e⟩
    rcases List.mem_or_eq_of_mem_set hm with h | rfl
    · exact ⟨m, h, e⟩
    · exact ⟨R[k], List.getElem_mem hk, by rw [← h1]; exact e⟩
  · rintro ⟨m, hm, e⟩
    obtain ⟨j, hj, rfl⟩ := List.getElem_of_mem hm
    by_cases hjk : j = k
    · subst hjk
      exact ⟨n, List.mem_set hj n, by rw [h1]; exact e⟩
    · exact ⟨R[j], List.mem_iff_getElem.2 ⟨j, by rw [List.length_set]; exact hj, by rw [List.getElem_set_ne (fun h => hjk h.symm)]⟩, e⟩
theorem Dom.put {ρ ρ' : Roles} {nb : Int → Nat} {mb : Nat} {rt : Option Nat} {w w' : World} {q : Nat} {R : List RN} {last : Int} (h : Dom ρ nb mb rt w q R last) (hI : Ids R) {k : Nat} (hk : k < R.length) {n' : RN} (h1 : n'.id = R[k].id) (h2 : n'.par = R[k].par)
    (hρ : ∀ b, (ρ b).isSome = true → ρ' b = ρ b) (hlow : ∀ b, (ρ' b).isSome = true → b < w'.heap.size) (hold : ∀ b r, ρ b = some r → r.1 ≠ R[k].id → w'.heap[b]? = w.heap[b]?) {av' kv' : Value} (hP' : PNode ρ' nb w' R n' av' kv') : Dom ρ' nb mb rt w' q (R.set k n') last := by
  have hpk := hI.pos _ (List.getElem_mem hk)
  refine ⟨(hold q _ h.role (by show (0 : Int) ≠ _; omega)).trans h.blk, (hρ q (by rw [h.role]; rfl)).trans h.role, (hρ mb (by rw [h.mrole]; rfl)).trans h.mrole, ?_, fun m hm => ?_, hlow, by rw [List.length_set]; exact h.few⟩
  · rw [List.length_set, blkOf_same (set_same hk h1)]
    exact h.map.heap (hold mb _ h.mrole (by show (0 : Int) ≠ _; omega))
  · by_cases e : m.id = R[k].id
    · have : m = n' := mem_one (set_ids hI hk h1) hm (List.mem_set hk n') (e.trans h1.symm)
      subst this
      exact ⟨av', kv', hP'.kept (fun _ _ _ => rfl) (fun _ _ => rfl) (kids_put hk h1 h2 m.id)⟩
    · have hmR : m ∈ R := by
        rcases List.mem_or_eq_of_mem_set hm with h | rfl
        · exact h
        · exact absurd h1 e
      obtain ⟨av, kv, hP⟩ := h.node m hmR
      exact ⟨av, kv, hP.kept (fun b j eb => hold b _ eb e) hρ (kids_put hk h1 h2 m.id)⟩
set_option maxHeartbeats 2000000 in
set_option maxRecDepth 100000 in
theorem write_none (ρ : Roles) (nb : Int → Nat) (mb : Nat) (rt : Option Nat) (w : World) (q : Nat) (R : List RN) (last : Int) (h : Dom ρ nb mb rt w q R last) (kd id pa bf ky : Int) (tg nm tx : ByteArray) (hid : I64 id) (hno : ∀ n, n ∈ R → n.id ≠ id) :
    Calls Tryz.prog 91 #[.pointer (some ⟨q, 0, none⟩), .agg #[.int .i64 kd, .int .i64 id, .int .i64 pa, .int .i64 bf, .int .i64 ky, .string tg, .string nm, .string tx]] w fun e w' => e = .returned (.bool false) ∧ Below w.heap.size w w' := by
  have d1 : w.cell? ⟨q, 1, none⟩ = some (.map (some mb)) := cell_of_blk h.blk 1 _ rfl
  have ltq := lt_of_blk h.blk
  have Hlk : Hid (∀ w1, Below w.heap.size w w1 → (Instr.lookup 111 (.map (some mb)) (.int .i64 id) false).run Tryz.prog w1 = .ok (.pointer none) w1) := hide fun w1 hb => by
    have := (h.below hb).map.look hid
    rw [blkOf_no hno] at this
    exact this
  clear h
  go_enter Tryz.func91, Tryz.ntmps91
  go_wp2_with fail
  generalize hw0 : w.alloc (.cells #[.int .i64 kd, .int .i64 id, .int .i64 pa, .int .i64 bf, .int .i64 ky, .string tg, .string nm, .string tx] 29) = w0
  have hb0 : Below w.heap.size w w0 := by rw [← hw0]; exact (Below.refl _ _).alloc (Nat.le_refl _) _
  have lt0 : w.heap.size < w0.heap.size := by rw [← hw0]; simp
  have x1 : w0.cell? ⟨w.heap.size, 1, none⟩ = some (.int .i64 id) := by rw [← hw0]; simp [go_sem]
  have y1 : w0.cell? ⟨q, 1, none⟩ = some (.map (some mb)) := (hb0.cell (p := ⟨q, 1, none⟩) ltq).trans d1
  have lk : ∀ n, (Instr.lookup 111 (.map (some mb)) (.int .i64 id) false).run Tryz.prog (w0.drewN n) = .ok (.pointer none) (w0.drewN n) := fun n => Hlk.out _ ⟨hb0.os, hb0.tape, hb0.output, hb0.size, hb0.block⟩
  have HB0 := hide hb0
  clear hw0 hb0 d1
  go_big_quiet (fail)
  go_wp2_with fail
  go_ret
  exact ⟨rfl, belowD HB0.out _⟩
set_option maxHeartbeats 2000000 in
set_option maxRecDepth 100000 in
theorem write_elem (ρ : Roles) (nb : Int → Nat) (mb : Nat) (rt : Option Nat) (w : World) (q : Nat) (R : List RN) (last : Int) (h : Dom ρ nb mb rt w q R last) (kd id pa bf ky : Int) (tg nm tx : ByteArray) (k : Nat) (hk : k < R.length) (hid : I64 R[k].id) (hidk : R[k].id = id) (htag : R[k].tag.toList.isEmpty = false) :
    Calls Tryz.prog 91 #[.pointer (some ⟨q, 0, none⟩), .agg #[.int .i64 kd, .int .i64 id, .int .i64 pa, .int .i64 bf, .int .i64 ky, .string tg, .string nm, .string tx]] w fun e w' => e = .returned (.bool false) ∧ Below w.heap.size w w' := by
  subst hidk
  obtain ⟨av, kv, hP⟩ := h.node _ (List.getElem_mem hk)
  have d1 : w.cell? ⟨q, 1, none⟩ = some (.map (some mb)) := cell_of_blk h.blk 1 _ rfl
  have ltq := lt_of_blk h.blk
  have Hlk : Hid (∀ w1, Below w.heap.size w w1 → (Instr.lookup 111 (.map (some mb)) (.int .i64 R[k].id) false).run Tryz.prog w1 = .ok (.pointer (some ⟨nb R[k].id, 0, none⟩)) w1) := hide fun w1 hb => by
    have := (h.below hb).map.look hid
    rw [blkOf_yes (List.getElem_mem hk)] at this
    exact this
  have HEl : Hid (∀ w1, Below w.heap.size w w1 → Calls Tryz.prog 102 #[.pointer (some ⟨nb R[k].id, 0, none⟩)] w1 fun e w' => e = .returned (.bool true) ∧ w1 = w') := hide fun w1 hb => by
    have := isElem_any (hP.kept (R' := R) (w' := w1) (ρ' := ρ) (fun b j e => hb.block b (h.low b (by rw [e]; rfl))) (fun _ _ => rfl) rfl)
    rw [htag] at this
    exact this.mono fun _ _ h => ⟨h.1, h.2.symm⟩
  clear h hP
  go_enter Tryz.func91, Tryz.ntmps91
  go_wp2_with fail
  generalize hw0 : w.alloc (.cells #[.int .i64 kd, .int .i64 R[k].id, .int .i64 pa, .int .i64 bf, .int .i64 ky, .string tg, .string nm, .string tx] 29) = w0
  have hb0 : Below w.heap.size w w0 := by rw [← hw0]; exact (Below.refl _ _).alloc (Nat.le_refl _) _
  have lt0 : w.heap.size < w0.heap.size := by rw [← hw0]; simp
  have x1 : w0.cell? ⟨w.heap.size, 1, none⟩ = some (.int .i64 R[k].id) := by rw [← hw0]; simp [go_sem]
  have x7 : w0.cell? ⟨w.heap.size, 7, none⟩ = some (.string tx) := by rw [← hw0]; simp [go_sem]
  have y1 : w0.cell? ⟨q, 1, none⟩ = some (.map (some mb)) := (hb0.cell (p := ⟨q, 1, none⟩) ltq).trans d1
  have lk : ∀ n, (Instr.lookup 111 (.map (some mb)) (.int .i64 R[k].id) false).run Tryz.prog (w0.drewN n) = .ok (.pointer (some ⟨nb R[k].id, 0, none⟩)) (w0.drewN n) := fun n => Hlk.out _ ⟨hb0.os, hb0.tape, hb0.output, hb0.size, hb0.block⟩
  have HB0 := hide hb0
  clear hw0 hb0 d1
  go_big_quiet (fail)
  go_wp2_with (first | (go_at_call 102; refine (unhide HEl _ (belowD (unhide HB0) _)).mono ?_; rintro e w1 ⟨rfl, rfl⟩))
  go_ret
  exact ⟨rfl, belowD HB0.out _⟩
set_option maxHeartbeats 2000000 in
set_option maxRecDepth 100000 in
theorem write_long (ρ : Roles) (nb : Int → Nat) (mb : Nat) (rt : Option Nat) (w : World) (q : Nat) (R : List RN) (last : Int) (h : Dom ρ nb mb rt w q R last) (kd id pa bf ky : Int) (tg nm tx : ByteArray) (k : Nat) (hk : k < R.length) (hid : I64 R[k].id) (hidk : R[k].id = id) (htag : R[k].tag.toList.isEmpty = true) (hts : tx.size ≤ maxLen) (htx : textB tx = false) :
    Calls Tryz.prog 91 #[.pointer (some ⟨q, 0, none⟩), .agg #[.int .i64 kd, .int .i64 id, .int .i64 pa, .int .i64 bf, .int .i64 ky, .string tg, .string nm, .string tx]] w fun e w' => e = .returned (.bool false) ∧ Below w.heap.size w w' := by
  subst hidk
  obtain ⟨av, kv, hP⟩ := h.node _ (List.getElem_mem hk)
  have d1 : w.cell? ⟨q, 1, none⟩ = some (.map (some mb)) := cell_of_blk h.blk 1 _ rfl
  have ltq := lt_of_blk h.blk
  have Hlk : Hid (∀ w1, Below w.heap.size w w1 → (Instr.lookup 111 (.map (some mb)) (.int .i64 R[k].id) false).run Tryz.prog w1 = .ok (.pointer (some ⟨nb R[k].id, 0, none⟩)) w1) := hide fun w1 hb => by
    have := (h.below hb).map.look hid
    rw [blkOf_yes (List.getElem_mem hk)] at this
    exact this
  have HEl : Hid (∀ w1, Below w.heap.size w w1 → Calls Tryz.prog 102 #[.pointer (some ⟨nb R[k].id, 0, none⟩)] w1 fun e w' => e = .returned (.bool false) ∧ w1 = w') := hide fun w1 hb => by
    have := isElem_any (hP.kept (R' := R) (w' := w1) (ρ' := ρ) (fun b j e => hb.block b (h.low b (by rw [e]; rfl))) (fun _ _ => rfl) rfl)
    rw [htag] at this
    exact this.mono fun _ _ h => ⟨h.1, h.2.symm⟩
  have HTx : Hid (∀ w1, Calls Tryz.prog 99 #[.string tx] w1 fun e w' => e = .returned (.bool false) ∧ w1 = w') := hide fun w1 => (isText_is tx _ htx hts w1).mono fun _ _ h => ⟨h.1, h.2.symm⟩
  clear h hP
  go_enter Tryz.func91, Tryz.ntmps91
  go_wp2_with fail
  generalize hw0 : w.alloc (.cells #[.int .i64 kd, .int .i64 R[k].id, .int .i64 pa, .int .i64 bf, .int .i64 ky, .string tg, .string nm, .string tx] 29) = w0
  have hb0 : Below w.heap.size w w0 := by rw [← hw0]; exact (Below.refl _ _).alloc (Nat.le_refl _) _
  have lt0 : w.heap.size < w0.heap.size := by rw [← hw0]; simp
  have x1 : w0.cell? ⟨w.heap.size, 1, none⟩ = some (.int .i64 R[k].id) := by rw [← hw0]; simp [go_sem]
  have x7 : w0.cell? ⟨w.heap.size, 7, none⟩ = some (.string tx) := by rw [← hw0]; simp [go_sem]
  have y1 : w0.cell? ⟨q, 1, none⟩ = some (.map (some mb)) := (hb0.cell (p := ⟨q, 1, none⟩) ltq).trans d1
  have lk : ∀ n, (Instr.lookup 111 (.map (some mb)) (.int .i64 R[k].id) false).run Tryz.prog (w0.drewN n) = .ok (.pointer (some ⟨nb R[k].id, 0, none⟩)) (w0.drewN n) := fun n => Hlk.out _ ⟨hb0.os, hb0.tape, hb0.output, hb0.size, hb0.block⟩
  have HB0 := hide hb0
  clear hw0 hb0 d1
  go_big_quiet (fail)
  go_wp2_with (first | (go_at_call 102; refine (unhide HEl _ (belowD (unhide HB0) _)).mono ?_; rintro e w1 ⟨rfl, rfl⟩) | (go_at_call 99; refine (unhide HTx _).mono ?_; rintro e w1 ⟨rfl, rfl⟩))
  go_ret
  exact ⟨rfl, belowD HB0.out _⟩
set_option maxHeartbeats 2000000 in
set_option maxRecDepth 100000 in
theorem write_ok (ρ : Roles) (nb : Int → Nat) (mb : Nat) (rt : Option Nat) (w : World) (q : Nat) (R : List RN) (last : Int) (h : Dom ρ nb mb rt w q R last) (kd id pa bf ky : Int) (tg nm tx : ByteArray) (k : Nat) (hk : k < R.length) (hid : I64 R[k].id) (hidk : R[k].id = id) (hI : Ids R) (htag : R[k].tag.toList.isEmpty = true) (hts : tx.size ≤ maxLen) (hsz : tx.size ≤ 281474976710656) (htx : textB tx = true) :
    Calls Tryz.prog 91 #[.pointer (some ⟨q, 0, none⟩), .agg #[.int .i64 kd, .int .i64 id, .int .i64 pa, .int .i64 bf, .int .i64 ky, .string tg, .string nm, .string tx]] w fun e w' => e = .returned (.bool true) ∧ ∃ ρ', Wrote ρ ρ' w w' ∧ Dom ρ' nb mb rt w' q (R.set k { R[k] with text := tx }) last := by
  subst hidk
  obtain ⟨av, kv, hP⟩ := h.node _ (List.getElem_mem hk)
  have d1 : w.cell? ⟨q, 1, none⟩ = some (.map (some mb)) := cell_of_blk h.blk 1 _ rfl
  have ltq := lt_of_blk h.blk
  have Hlk : Hid (∀ w1, Below w.heap.size w w1 → (Instr.lookup 111 (.map (some mb)) (.int .i64 R[k].id) false).run Tryz.prog w1 = .ok (.pointer (some ⟨nb R[k].id, 0, none⟩)) w1) := hide fun w1 hb => by
    have := (h.below hb).map.look hid
    rw [blkOf_yes (List.getElem_mem hk)] at this
    exact this
  have HEl : Hid (∀ w1, Below w.heap.size w w1 → Calls Tryz.prog 102 #[.pointer (some ⟨nb R[k].id, 0, none⟩)] w1 fun e w' => e = .returned (.bool false) ∧ w1 = w') := hide fun w1 hb => by
    have := isElem_any (hP.kept (R' := R) (w' := w1) (ρ' := ρ) (fun b j e => hb.block b (h.low b (by rw [e]; rfl))) (fun _ _ => rfl) rfl)
    rw [htag] at this
    exact this.mono fun _ _ h => ⟨h.1, h.2.symm⟩
  have HTx : Hid (∀ w1, Calls Tryz.prog 99 #[.string tx] w1 fun e w' => e = .returned (.bool true) ∧ w1 = w') := hide fun w1 => (isText_is tx _ htx hts w1).mono fun _ _ h => ⟨h.1, h.2.symm⟩
  have HOw : Hid (∀ w1, Calls Tryz.prog 63 #[.string tx] w1 fun e w' => e = .returned (.string tx) ∧ Below w1.heap.size w1 w') := hide fun w1 => own_any tx w1 hsz
  have c3 : w.cell? ⟨nb R[k].id, 3, none⟩ = some (.string R[k].text) := cell_of_blk hP.blk 3 _ rfl
  have f3 := frozen_of_blk hP.blk 3
  have ltK := hP.lt
  have HD := hide h
  have HP := hide hP
  clear h hP
  go_enter Tryz.func91, Tryz.ntmps91
  go_wp2_with fail
  generalize hw0 : w.alloc (.cells #[.int .i64 kd, .int .i64 R[k].id, .int .i64 pa, .int .i64 bf, .int .i64 ky, .string tg, .string nm, .string tx] 29) = w0
  have hb0 : Below w.heap.size w w0 := by rw [← hw0]; exact (Below.refl _ _).alloc (Nat.le_refl _) _
  have lt0 : w.heap.size < w0.heap.size := by rw [← hw0]; simp
  have x1 : w0.cell? ⟨w.heap.size, 1, none⟩ = some (.int .i64 R[k].id) := by rw [← hw0]; simp [go_sem]
  have x7 : w0.cell? ⟨w.heap.size, 7, none⟩ = some (.string tx) := by rw [← hw0]; simp [go_sem]
  have y1 : w0.cell? ⟨q, 1, none⟩ = some (.map (some mb)) := (hb0.cell (p := ⟨q, 1, none⟩) ltq).trans d1
  have lk : ∀ n, (Instr.lookup 111 (.map (some mb)) (.int .i64 R[k].id) false).run Tryz.prog (w0.drewN n) = .ok (.pointer (some ⟨nb R[k].id, 0, none⟩)) (w0.drewN n) := fun n => Hlk.out _ ⟨hb0.os, hb0.tape, hb0.output, hb0.size, hb0.block⟩
  have HB0 := hide hb0
  clear hw0 hb0 d1
  go_big_quiet (fail)
  go_wp2_with (first | (go_at_call 102; refine (unhide HEl _ (belowD (unhide HB0) _)).mono ?_; rintro e w1 ⟨rfl, rfl⟩) | (go_at_call 99; refine (unhide HTx _).mono ?_; rintro e w1 ⟨rfl, rfl⟩) | (go_at_call 63; refine (unhide HOw _).mono ?_; rintro e w2 ⟨rfl, hb2⟩; have hb3 : Below w.heap.size w w2 := (belowD (unhide HB0) _).trans (hb2.mono (unhide HB0).size); have e3 := (hb3.cell (p := ⟨nb R[k].id, 3, none⟩) ltK).trans c3; have g3 := (hb3.frozen (p := ⟨nb R[k].id, 3, none⟩) ltK).trans f3; have HB3 := hide hb3; clear hb2 hb3))
  go_ret
  refine ⟨rfl, ρ, ⟨⟨HB3.out.os, HB3.out.tape, HB3.out.output, by rw [size_setCell']; exact HB3.out.size, fun b hb hn => ?_⟩, fun _ _ => rfl, fun _ h => .inl h⟩, ?_⟩
  · exact (Below.heap_setCell _ _ _ _ (fun e => hn (by rw [e]; show (ρ (nb R[k].id)).isSome = true; rw [HP.out.role]; rfl))).trans (HB3.out.block b hb)
  · have hold : ∀ b r, ρ b = some r → r ≠ (R[k].id, 0) → (w2.setCell ⟨nb R[k].id, 3, none⟩ (.string tx)).heap[b]? = w.heap[b]? := fun b r e hr => by
      refine (Below.heap_setCell _ _ _ _ (fun x => hr ?_)).trans (HB3.out.block b (HD.out.low b (by rw [e]; rfl)))
      have x : b = nb R[k].id := x
      rw [x, HP.out.role] at e
      exact (Option.some.inj e).symm
    refine Dom.put (n' := { R[k] with text := tx }) (av' := av) (kv' := kv) HD.out hI hk rfl rfl (fun _ _ => rfl) (fun b e => by rw [size_setCell']; exact Nat.lt_of_lt_of_le (HD.out.low b e) HB3.out.size) (fun b r e hr => hold b r e (fun x => hr (by rw [x]))) ⟨?_, HP.out.role, ?_, HP.out.arole, ?_, HP.out.krole, HP.out.few, HP.out.rise, HP.out.tag, hts, HP.out.size⟩
    · have := set_blk (i := 3) ((HB3.out.block _ ltK).trans HP.out.blk) (.string tx)
      exact this
    · exact own_heap HP.out.arow fun b e => hold b _ (HP.out.arole b e) (fun x => by have := (Prod.mk.inj x).2; omega)
    · exact own_heap HP.out.krow fun b e => hold b _ (HP.out.krole b e) (fun x => by have := (Prod.mk.inj x).2; omega)
end Go.Proofs.YtobgcaemnpkbmaaGreat
