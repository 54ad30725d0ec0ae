/- Tk Lip -/
import Derived.Test.YtobgcaemnpkbmaaMd06
import Derived.Test.YtobgcaemnpkbmaaMd04
namespace Go.Proofs.Ytobgcaemnpkbmaa
open Go.RowKit
theorem mem_one {R : List RN} (hI : Ids R) {m n : RN} (hm : m ∈ R) (hn : n ∈ R) (e : m.id = n.id) : m = n := by
  obtain ⟨i, hi, rfl⟩ := List.getElem_of_mem hm
  obtain ⟨j, hj, rfl⟩ := List.getElem_of_mem hn
  have := hI.inj i j hi hj e
  subst this
  rfl
theorem blkOf_same {nb : Int → Nat} {R R' : List RN} (h : ∀ i, (∃ n, n ∈ R' ∧ n.id = i) ↔ (∃ n, n ∈ R ∧ n.id = i)) : blkOf nb R' = blkOf nb R := by
  funext i
  unfold blkOf
  have : R'.any (fun n => n.id == i) = R.any (fun n => n.id == i) := by
    cases hx : R.any (fun n => n.id == i) with
    | true =>
      obtain ⟨n, hn, e⟩ := List.any_eq_true.1 hx
      obtain ⟨m, hm, e'⟩ := (h i).2 ⟨n, hn, by simpa using e⟩
      exact List.any_eq_true.2 ⟨m, hm, by simp [e']⟩
    | false =>
      cases hy : R'.any (fun n => n.id == i) with
      | false => rfl
      | true =>
        obtain ⟨n, hn, e⟩ := List.any_eq_true.1 hy
        obtain ⟨m, hm, e'⟩ := (h i).1 ⟨n, hn, by simpa using e⟩
        rw [List.any_eq_true.2 ⟨m, hm, by simp [e']⟩] at hx
        cases hx
  rw [this]
theorem ins_there {R : List RN} (hI : Ids R) {n : RN} {k : Nat} {bf : Int} (hk : k < R.length) (hb : bf = 0 ∨ ∃ i, i < R.length ∧ idAt R i = bf) (hn : n.id = R[k].id) :
    n ∈ insP R n k bf ∧ ∀ i, (∃ m, m ∈ insP R n k bf ∧ m.id = i) ↔ (∃ m, m ∈ R ∧ m.id = i) := by
  obtain ⟨h1, h2⟩ := insP_perm (n := n) hI hk hb
  refine ⟨h1.mem_iff.2 (by simp), fun i => ⟨?_, ?_⟩⟩
  · rintro ⟨m, hm, e⟩
    rcases insP_mem hI hk hb m hm with h | rfl
    · exact ⟨m, h, e⟩
    · exact ⟨R[k], List.getElem_mem hk, by rw [← hn]; exact e⟩
  · rintro ⟨m, hm, e⟩
    rcases List.mem_append.1 (h2.mem_iff.1 hm) with h | h
    · exact ⟨m, h1.mem_iff.2 (List.mem_append.2 (.inl h)), e⟩
    · have := List.mem_singleton.1 h
      subst this
      exact ⟨n, h1.mem_iff.2 (by simp), by rw [hn]; exact e⟩
def Wrote (ρ ρ' : Roles) (w w' : World) : Prop := Touch (fun b => (ρ b).isSome = true) w w' ∧ (∀ b, (ρ b).isSome = true → ρ' b = ρ b) ∧ ∀ b, (ρ' b).isSome = true → (ρ b).isSome = true ∨ w.heap.size ≤ b
theorem Dom.taken {ρ : Roles} {nb : Int → Nat} {mb : Nat} {rt : Option Nat} {w : World} {q : Nat} {R : List RN} {last : Int} (h : Dom ρ nb mb rt w q R last) (hI : Ids R) {k t : Nat} (hk : k < R.length) (ht : t < R.length) (hne : R[t].id ≠ R[k].id) (hp0 : R[k].par = 0) {av kv : Value} (hP : PNode ρ nb w R R[t] av kv)
    {bf : Int} (hb : bf = 0 ∨ ∃ i, i < R.length ∧ idAt R i = bf) {L : List Int} (hL : kidIds (insP R { R[k] with par := R[t].id } k bf) R[t].id = L) {w2 : World} {v' : Value} (hs : w.heap.size ≤ w2.heap.size) (ho : w2.os = w.os ∧ w2.tape = w.tape ∧ w2.output = w.output)
    (hblk : ∀ b, b < w.heap.size → some b ≠ kv.ownBlock → w2.heap[b]? = w.heap[b]?) (hrow : w2.ownsRow 0 69 1 v' L.length (ptrsOf nb L)) (hv : ∀ b, v'.ownBlock = some b → kv.ownBlock = some b ∨ w.heap.size ≤ b) :
    ∃ ρ', Wrote ρ ρ' w ((w2.setCell ⟨nb R[t].id, 6, none⟩ v').setCell ⟨nb R[k].id, 5, none⟩ (.pointer (some ⟨nb R[t].id, 0, none⟩))) ∧ Dom ρ' nb mb rt ((w2.setCell ⟨nb R[t].id, 6, none⟩ v').setCell ⟨nb R[k].id, 5, none⟩ (.pointer (some ⟨nb R[t].id, 0, none⟩))) q (insP R { R[k] with par := R[t].id } k bf) last := by
  obtain ⟨avk, kvk, hPk⟩ := h.node _ (List.getElem_mem hk)
  have hIds' := insP_ids (n := { R[k] with par := R[t].id }) hI hk hb rfl
  obtain ⟨hin, hsame⟩ := ins_there (n := { R[k] with par := R[t].id }) hI hk hb rfl
  have hlen := insP_length (n := { R[k] with par := R[t].id }) hI hk hb
  have hmem := insP_mem (n := { R[k] with par := R[t].id }) hI hk hb
  generalize hR' : insP R { R[k] with par := R[t].id } k bf = R' at *
  have hpk : (0 : Int) < R[k].id := hI.pos _ (List.getElem_mem hk)
  have hpt : (0 : Int) < R[t].id := hI.pos _ (List.getElem_mem ht)
  have hnn : nb R[t].id ≠ nb R[k].id := fun e => hne (hP.nb_inj hPk e)
  -- the heap then
  have hF : ∀ b, b ≠ nb R[t].id → b ≠ nb R[k].id → ((w2.setCell ⟨nb R[t].id, 6, none⟩ v').setCell ⟨nb R[k].id, 5, none⟩ (.pointer (some ⟨nb R[t].id, 0, none⟩))).heap[b]? = w2.heap[b]? := fun b h1 h2 =>
    (Below.heap_setCell _ _ _ _ h2).trans (Below.heap_setCell _ _ _ _ h1)
  have hold : ∀ b r, ρ b = some r → b ≠ nb R[t].id → b ≠ nb R[k].id → some b ≠ kv.ownBlock → ((w2.setCell ⟨nb R[t].id, 6, none⟩ v').setCell ⟨nb R[k].id, 5, none⟩ (.pointer (some ⟨nb R[t].id, 0, none⟩))).heap[b]? = w.heap[b]? := fun b r e h1 h2 h3 =>
    (hF b h1 h2).trans (hblk b (h.low b (by rw [e]; rfl)) h3)
  have hkvr : ∀ b r, ρ b = some r → r ≠ (R[t].id, 2) → some b ≠ kv.ownBlock := fun b r e hr h2 => by
    rw [hP.krole b h2.symm] at e
    exact hr (Option.some.inj e).symm
  have htr : ∀ b r, ρ b = some r → r ≠ (R[t].id, 0) → b ≠ nb R[t].id := fun b r e hr h2 => by
    subst h2
    rw [hP.role] at e
    exact hr (Option.some.inj e).symm
  have hkr : ∀ b r, ρ b = some r → r ≠ (R[k].id, 0) → b ≠ nb R[k].id := fun b r e hr h2 => by
    subst h2
    rw [hPk.role] at e
    exact hr (Option.some.inj e).symm
  have hvρ : ∀ b, v'.ownBlock = some b → (ρ b).isSome = true → ρ b = some (R[t].id, 2) := fun b e hsb => by
    rcases hv b e with e2 | e2
    · exact hP.krole b e2
    · have := h.low b hsb; omega
  have hρ : ∀ b, (ρ b).isSome = true → (if v'.ownBlock = some b then some (R[t].id, 2) else ρ b) = ρ b := fun b hsb => by
    by_cases e : v'.ownBlock = some b
    · rw [if_pos e, hvρ b e hsb]
    · rw [if_neg e]
  have hszF : ((w2.setCell ⟨nb R[t].id, 6, none⟩ v').setCell ⟨nb R[k].id, 5, none⟩ (.pointer (some ⟨nb R[t].id, 0, none⟩))).heap.size = w2.heap.size := by rw [size_setCell', size_setCell']
  refine ⟨fun b => if v'.ownBlock = some b then some (R[t].id, 2) else ρ b, ⟨⟨ho.1, ho.2.1, ho.2.2, by rw [hszF]; exact hs, fun b hb hn => ?_⟩, hρ, fun b hsb => ?_⟩, ⟨?_, ?_, ?_, ?_, fun m hm => ?_, fun b hsb => ?_, by rw [hlen]; exact h.few⟩⟩
  · refine (hF b (fun e => hn (by rw [e, hP.role]; rfl)) (fun e => hn (by rw [e, hPk.role]; rfl))).trans (hblk b hb (fun e => hn (by rw [hP.krole b e.symm]; rfl)))
  · by_cases e : v'.ownBlock = some b
    · rcases hv b e with e2 | e2
      · exact .inl (by rw [hP.krole b e2]; rfl)
      · exact .inr e2
    · replace hsb : (if v'.ownBlock = some b then some (R[t].id, 2) else ρ b).isSome = true := hsb
      rw [if_neg e] at hsb; exact .inl hsb
  · exact (hold q _ h.role (htr q _ h.role (fun e => by have := (Prod.mk.inj e).1; omega)) (hkr q _ h.role (fun e => by have := (Prod.mk.inj e).1; omega)) (hkvr q _ h.role (fun e => by have := (Prod.mk.inj e).1; omega))).trans h.blk
  · exact (hρ q (by rw [h.role]; rfl)).trans h.role
  · exact (hρ mb (by rw [h.mrole]; rfl)).trans h.mrole
  · rw [hlen, blkOf_same hsame]
    exact h.map.heap (hold mb _ h.mrole (htr mb _ h.mrole (fun e => by have := (Prod.mk.inj e).1; omega)) (hkr mb _ h.mrole (fun e => by have := (Prod.mk.inj e).1; omega)) (hkvr mb _ h.mrole (fun e => by have := (Prod.mk.inj e).1; omega)))
  · by_cases e1 : m.id = R[k].id
    · have em : m = { R[k] with par := R[t].id } := mem_one hIds' hm hin e1
      subst em
      have hkk : kidIds R' R[k].id = kidIds R R[k].id := by
        rw [← hR']
        exact ins_other hk (by rw [hp0]; omega) hne
      have hb0 : w2.heap[nb R[k].id]? = w.heap[nb R[k].id]? := hblk _ hPk.lt (hkvr _ _ hPk.role (fun e => by have := (Prod.mk.inj e).2; omega))
      have hb1 : (w2.setCell ⟨nb R[t].id, 6, none⟩ v').heap[nb R[k].id]? = some (.cells (nodeCells nb R[k] avk kvk) 79 (0, 0)) := (Below.heap_setCell _ _ _ _ (Ne.symm hnn)).trans (hb0.trans hPk.blk)
      have hb2 := set_blk (i := 5) hb1 (.pointer (some ⟨nb R[t].id, 0, none⟩))
      refine ⟨avk, kvk, ⟨?_, ?_, ?_, ?_, ?_, ?_, hPk.few, hPk.rise, hPk.tag, hPk.text, hPk.size⟩⟩
      · rw [hb2]
        show some (Obj.cells #[_, _, _, _, _, _, _] _ _) = some (Obj.cells #[_, _, _, _, _, parPtr nb R[t].id, _] _ _)
        unfold parPtr
        rw [if_neg (by omega)]
      · exact (hρ _ (by rw [hPk.role]; rfl)).trans hPk.role
      · exact own_heap hPk.arow fun b e => hold b _ (hPk.arole b e) (htr b _ (hPk.arole b e) (fun e => by have := (Prod.mk.inj e).2; omega)) (hkr b _ (hPk.arole b e) (fun e => by have := (Prod.mk.inj e).2; omega)) (hkvr b _ (hPk.arole b e) (fun e => by have := (Prod.mk.inj e).2; omega))
      · exact fun b e => (hρ b (by rw [hPk.arole b e]; rfl)).trans (hPk.arole b e)
      · show World.ownsRow _ _ _ _ kvk (kidIds R' R[k].id).length (ptrsOf nb (kidIds R' R[k].id))
        rw [hkk]
        exact own_heap hPk.krow fun b e => hold b _ (hPk.krole b e) (htr b _ (hPk.krole b e) (fun e => by have := (Prod.mk.inj e).2; omega)) (hkr b _ (hPk.krole b e) (fun e => by have := (Prod.mk.inj e).2; omega)) (hkvr b _ (hPk.krole b e) (fun e => hne (Prod.mk.inj e).1.symm))
      · exact fun b e => (hρ b (by rw [hPk.krole b e]; rfl)).trans (hPk.krole b e)
    · have hmR : m ∈ R := by
        rcases hmem m hm with h | h
        · exact h
        · subst h; exact absurd rfl e1
      by_cases e2 : m.id = R[t].id
      · have em : m = R[t] := mem_one hI hmR (List.getElem_mem ht) e2
        subst em
        have hb0 : w2.heap[nb R[t].id]? = some (.cells (nodeCells nb R[t] av kv) 79 (0, 0)) := (hblk _ hP.lt (hkvr _ _ hP.role (fun e => by have := (Prod.mk.inj e).2; omega))).trans hP.blk
        have hb1 := set_blk (i := 6) hb0 v'
        refine ⟨av, v', ⟨?_, ?_, ?_, ?_, ?_, ?_, hP.few, hP.rise, hP.tag, hP.text, hP.size⟩⟩
        · rw [Below.heap_setCell _ _ _ _ hnn, hb1]
          rfl
        · exact (hρ _ (by rw [hP.role]; rfl)).trans hP.role
        · exact own_heap hP.arow fun b e => hold b _ (hP.arole b e) (htr b _ (hP.arole b e) (fun e => by have := (Prod.mk.inj e).2; omega)) (hkr b _ (hP.arole b e) (fun e => by have := (Prod.mk.inj e).2; omega)) (hkvr b _ (hP.arole b e) (fun e => by have := (Prod.mk.inj e).2; omega))
        · exact fun b e => (hρ b (by rw [hP.arole b e]; rfl)).trans (hP.arole b e)
        · rw [hL]
          refine own_heap hrow fun b e => hF b (fun e2 => ?_) (fun e2 => ?_)
          · subst e2
            have := hvρ _ e (by rw [hP.role]; rfl)
            rw [hP.role] at this
            have := (Prod.mk.inj (Option.some.inj this)).2
            omega
          · subst e2
            have := hvρ _ e (by rw [hPk.role]; rfl)
            rw [hPk.role] at this
            have := (Prod.mk.inj (Option.some.inj this)).2
            omega
        · intro b e
          show (if v'.ownBlock = some b then some (R[t].id, 2) else ρ b) = _
          rw [if_pos e]
      · obtain ⟨avm, kvm, hPm⟩ := h.node m hmR
        refine ⟨avm, kvm, hPm.kept (fun b j e => hold b _ e (htr b _ e (fun x => e2 (Prod.mk.inj x).1)) (hkr b _ e (fun x => e1 (Prod.mk.inj x).1)) (hkvr b _ e (fun x => e2 (Prod.mk.inj x).1))) hρ ?_⟩
        rw [← hR']
        exact ins_other hk (by rw [hp0]; have := hI.pos m hmR; omega) (fun x => e2 x.symm)
  · rw [hszF]
    by_cases e : v'.ownBlock = some b
    · exact Nat.lt_of_lt_of_le (hrow.lt b e).2 (Nat.le_refl _)
    · replace hsb : (if v'.ownBlock = some b then some (R[t].id, 2) else ρ b).isSome = true := hsb
      rw [if_neg e] at hsb; exact Nat.lt_of_lt_of_le (h.low b hsb) hs
end Go.Proofs.Ytobgcaemnpkbmaa
namespace Go.Proofs.Ytobgcaemnpkbmaa
open Go.RowKit
def InsPost_ptr (w : World) (v : Value) (n : Nat) (ys : List Value) (e : Ending) (w' : World) : Prop :=
  ∃ v', e = .returned v' ∧ w'.ownsRow 0 69 1 v' (n + 1) ys ∧ w.grownBy w' v.ownBlock ∧ (v'.ownBlock = v.ownBlock ∨ ∃ b, v'.ownBlock = some b ∧ w.heap.size ≤ b)
set_option maxHeartbeats 4000000 in
set_option maxRecDepth 100000 in
theorem insert_end_ptr (v : Value) (n i vb : Nat) (xs u : List Value) (w : World) (hown : w.ownsRow 0 69 1 v n xs) (hi : i = n) (hn : n ≤ 1000000) (hu : u.length = 1) (hu1 : ∀ x ∈ u, x.oneCell' = true) (hvb : w.heap[vb]? = some (.cells u.toArray 69 (0, 0))) :
    Calls Try.prog 48 #[v, .int .i64 i, .slice (some ⟨vb, 0, none⟩) 1 1] w (InsPost_ptr w v n (xs ++ u)) := by
  obtain ⟨i0, hi0, hz0, hz1, hz2⟩ := info_parts nodePtrInfo
  obtain ⟨ao, c, rfl⟩ := own_shape hown
  have hnc : n ≤ c := by
    rcases hown.2 with ⟨e, h⟩ | ⟨g', cap, cur, e, hb, hg, hnc, _⟩
    · omega
    · simp only [Value.slice.injEq] at e; obtain ⟨_, _, rfl⟩ := e; exact hnc
  have hcm : c ≤ 9223372036854775807 := by
    rcases hown.2 with ⟨e, h⟩ | ⟨g', cap, cur, e, hb, hg, _, hcm, _⟩
    · simp only [Value.slice.injEq] at e; omega
    · simp only [Value.slice.injEq] at e; obtain ⟨_, _, rfl⟩ := e; unfold maxLen at hcm; omega
  have hsrc : ∀ a, some (⟨vb, 0, none⟩ : Addr) = some a → ∀ j x, u[j]? = some x → w.cell? (a.add j) = some x := fun a e j x hx => by
    cases e
    rw [addr_add', Nat.zero_add]
    simp only [World.cell?, hvb]
    simpa using hx
  have HO := hide hown
  have HS := hide hsrc
  have HU := hide hu
  have HU1 := hide hu1
  subst hi
  clear hown hsrc hvb hu hu1
  cases ao with
  | none =>
    go_enter Try.func48, Try.ntmps48
    go_wp2_with (first | (at_builtin; refine wpList_app _ rfl _ _ 77 rfl 0 69 i0 _ 1 8 Try.underlying77 hi0 hz0 hz1 hz2 rfl (.slice none i c) i xs rfl (unhide HO) (some ⟨vb, 0, none⟩) 1 1 u rfl (by simp) (by rw [unhide HU]) (unhide HS) (unhide HU1) (by omega) (by omega) (Nat.zero_le _) ?_; intro q4 w4 ho4 hg4 _))
    all_goals (go_ret; exact ⟨q4, rfl, ho4.out, hg4.out.by, hg4.out.at.imp id fun e => ⟨_, e, Nat.le_refl _⟩⟩)
  | some ad =>
    obtain ⟨g, o, sp⟩ := ad
    go_enter Try.func48, Try.ntmps48
    go_wp2_with (first | (at_builtin; refine wpList_app _ rfl _ _ 77 rfl 0 69 i0 _ 1 8 Try.underlying77 hi0 hz0 hz1 hz2 rfl (.slice (some ⟨g, o, sp⟩) i c) i xs rfl (unhide HO) (some ⟨vb, 0, none⟩) 1 1 u rfl (by simp) (by rw [unhide HU]) (unhide HS) (unhide HU1) (by omega) (by omega) (Nat.zero_le _) ?_; intro q4 w4 ho4 hg4 _))
    all_goals (go_ret; exact ⟨q4, rfl, ho4.out, hg4.out.by, hg4.out.at.imp id fun e => ⟨_, e, Nat.le_refl _⟩⟩)
set_option maxHeartbeats 4000000 in
set_option maxRecDepth 100000 in
theorem insert_shift_ptr (g n c i vb : Nat) (xs u : List Value) (w : World) (hown : w.ownsRow 0 69 1 (.slice (some ⟨g, 0, none⟩) n c) n xs) (hi : i < n) (hroom : n + 1 ≤ c) (h1 : ∀ x ∈ xs, x.oneCell' = true) (hu : u.length = 1) (hu1 : ∀ x ∈ u, x.oneCell' = true) (hvb : w.heap[vb]? = some (.cells u.toArray 69 (0, 0))) (hne : vb ≠ g) :
    Calls Try.prog 48 #[.slice (some ⟨g, 0, none⟩) n c, .int .i64 i, .slice (some ⟨vb, 0, none⟩) 1 1] w (InsPost_ptr w (.slice (some ⟨g, 0, none⟩) n c) n (xs.take (i * 1) ++ u ++ xs.drop (i * 1))) := by
  obtain ⟨i0, hi0, hz0, hz1, hz2⟩ := info_parts nodePtrInfo
  obtain ⟨cur, hcur, hcs, hnc, hcm⟩ := own_plain hown
  have hc63 : c ≤ 9223372036854775807 := by unfold maxLen at hcm; omega
  have hxl := hown.1
  obtain ⟨ys, hyl, how2⟩ := own_more hown (m := n + 1) (by omega) hroom
  have hsz : (Try.prog.info? 69).map (·.size) = some 1 := by rw [hi0]; simp [hz1]
  have hvs : ∀ j x, u[j]? = some x → w.cell? ⟨vb, j, none⟩ = some x := fun j x hx => by
    simp only [World.cell?, hvb]
    simpa using hx
  have hov : ∀ lb cb, (callFunc 65 #[.slice (some ⟨vb, 0, none⟩) 1 1, .slice (some ⟨g, i + 1, none⟩) lb cb]).run Try.prog w = .ok (.value (.bool false)) w := fun lb cb => by
    rw [run_callFunc_extern Try.func65 (by kernel_rfl) (by kernel_rfl) (by kernel_rfl) (e := Extern.SlicesOverlaps.overlaps #[77, 77] #[4]) (by kernel_rfl),
      Lib.run_overlaps_apart w 77 4 69 Try.underlying77 1 (fun w => Try.sizeOf69 w) ⟨vb, 0, none⟩ ⟨g, i + 1, none⟩ 1 1 lb cb hne 69 69 u.toArray.size cur.size (by unfold World.shape?; rw [hvb]) (by unfold World.shape?; rw [hcur]) (by rw [hcs]; omega) (by simp [World.frozen?, hvb]) (by simp [World.frozen?, hvb])]
    rfl
  have hsp : ∀ j, j < (n + 1) * 1 → (w.cell? ⟨g, j, none⟩).isSome = true := fun j hj => by
    rw [how2.cellAt j hj, List.getElem?_eq_getElem (by rw [how2.1]; exact hj)]; rfl
  have hfz : ∀ j, w.frozen? ⟨g, j, none⟩ = false := fun j => hown.frozenAt j
  obtain ⟨tl, htl⟩ : ∃ tl, tl = xs.drop (i * 1) := ⟨_, rfl⟩
  have htll : tl.length = (n - i) * 1 := by rw [htl, List.length_drop, hxl]; omega
  have hmin1 : Nat.min (n + 1 - i) (n - i) = n - i := by show min _ _ = _; omega
  have hcp1 : ∀ ty dc sc, (Builtin.copy_ #[77, 77] ty #[.slice (some ⟨g, i + 1, none⟩) (n - i) dc, .slice (some ⟨g, i, none⟩) (n + 1 - i) sc]).run Try.prog w.drew = .ok (goInt ((n - i : Nat) : Int)) (w.drew.setCells g (i + 1) tl) := fun ty dc sc => by
    have h := run_copy_cellsK (P := Try.prog) w.drew 77 77 ty 69 1 g (i + 1) (n - i) dc ⟨g, i, none⟩ (n + 1 - i) sc tl Try.underlying77 hsz (by rw [hmin1]; exact htll)
      (fun j x hx => by
        have hlt := (List.getElem?_eq_some_iff.1 hx).1
        rw [addr_add']
        show w.cell? _ = _
        rw [htl, List.getElem?_drop] at hx
        rw [hown.cellAt _ (by omega)]
        rw [Nat.mul_one] at hx; exact hx)
      (fun j hj => hsp _ (by omega)) (fun j _ => hfz _) (fun x hx => h1 x (by rw [htl] at hx; exact List.mem_of_mem_drop hx))
    rw [hmin1] at h
    exact h
  obtain ⟨W1, hW1⟩ : ∃ W1, W1 = w.drew.setCells g (i + 1) tl := ⟨_, rfl⟩
  rw [← hW1] at hcp1
  have ho1 : W1.ownsRow 0 69 1 (.slice (some ⟨g, 0, none⟩) (n + 1) c) (n + 1) (layL (xs ++ ys) (i + 1) tl) := by rw [hW1]; exact own_setCells tl (i + 1) how2.drew
  have hg1 := setCells_grown g tl (i + 1) w.drew
  rw [← hW1] at hg1
  have hl1 : (layL (xs ++ ys) (i + 1) tl).length = (n + 1) * 1 := ho1.1
  have hmin2 : Nat.min 1 (n + 1 - i) = 1 := by show min _ _ = _; omega
  have hcp2 : ∀ (W : World), (∀ x, W.cell? x = W1.cell? x) → (∀ x, W.frozen? x = W1.frozen? x) → ∀ ty dc, (Builtin.copy_ #[77, 77] ty #[.slice (some ⟨g, i, none⟩) (n + 1 - i) dc, .slice (some ⟨vb, 0, none⟩) 1 1]).run Try.prog W = .ok (goInt 1) (W.setCells g (i) u) := fun W hWc hWf ty dc => by
    have h := run_copy_cellsK (P := Try.prog) W 77 77 ty 69 1 g (i) (n + 1 - i) dc ⟨vb, 0, none⟩ 1 1 u Try.underlying77 hsz (by rw [hmin2, hu])
      (fun j x hx => by
        rw [addr_add', Nat.zero_add, hWc, hW1, World.cell?_setCells_out g _ _ _ _ (fun h _ => absurd h hne)]
        exact hvs j x hx)
      (fun j hj => by rw [hWc, ho1.cellAt _ (by omega), List.getElem?_eq_getElem (by rw [hl1]; omega)]; rfl) (fun j hj => by rw [hWf]; exact ho1.frozenAt _) hu1
    rw [hmin2] at h
    exact h
  have HO1 := hide ho1
  have HG1 := hide hg1
  have HX := hide hxl
  have HTl := hide htll
  have HT := hide htl
  have HU := hide hu
  have HYl := hide hyl
  have hb2 : ¬ (c = i + 1) := by omega
  have hb4 : ¬ (c = i) := by omega
  have hz2' : ¬ ((i : Int) = (n : Int)) := by omega
  have hw1 : IntKind.i64.wrap ((i : Int) + 1) = (i : Int) + 1 := by rw [IntKind.wrap_i64]; omega
  have hin : i ≤ n := by omega
  have htn : ((i : Int) + 1).toNat = i + 1 := by omega
  have hb3 : (i : Int) ≤ (n : Int) + 1 := by omega
  have hb1 : (0 : Int) ≤ (i : Int) + 1 := by omega
  have hroom' : ¬ ((c : Int) < (n : Int) + 1) := by omega
  clear hown how2 hsp hfz ho1 hg1 hl1 hcur hvs hxl htll htl hu hyl hW1 hcs
  go_enter Try.func48, Try.ntmps48
  go_wp2_with (simp only [hov])
  go_region_law (refine step_copy_runI rfl _ _ 77 77 rfl _ _ (by simp [Act.eval, Act.put]) (by simp [Act.eval, Act.put]) (hcp1 _ _ _) ?_)
  go_wp2_with (at_builtin; refine wpList_copy_runI _ rfl _ _ 77 77 rfl _ _ rfl rfl (hcp2 _ (fun _ => rfl) (fun _ => rfl) _ _) ?_)
  go_ret
  have ho2 := own_setCells u (i) HO1.out
  have hg2 := setCells_grown g u (i) W1
  have hx := HX.out
  have hy := HYl.out
  have hu := HU.out
  have htl := HTl.out
  refine ⟨.slice (some ⟨g, 0, none⟩) (n + 1) c, rfl, ?_, ⟨hg2.1.os.trans HG1.out.1.os, hg2.1.tape.trans (HG1.out.1.tape.trans rfl), hg2.1.output.trans HG1.out.1.output, ?_, fun b hb hn => (hg2.1.block b (by rw [HG1.out.2]; exact hb) hn).trans (HG1.out.1.block b hb hn)⟩, .inl rfl⟩
  · have e : layL (layL (xs ++ ys) (i + 1) tl) (i) u = xs.take (i * 1) ++ u ++ xs.drop (i * 1) := by
      have h := ins_list xs ys u (i * 1) 1 (by omega) hu (by omega)
      rw [← HT.out] at h ⊢
      rw [Nat.mul_one] at h ⊢
      exact h
    rw [e] at ho2
    exact ho2
  · rw [hg2.2, HG1.out.2]; exact Nat.le_refl _
set_option maxHeartbeats 4000000 in
set_option maxRecDepth 100000 in
theorem insert_grow_ptr (g n c i vb : Nat) (xs u : List Value) (w : World) (hown : w.ownsRow 0 69 1 (.slice (some ⟨g, 0, none⟩) n c) n xs) (hi : i < n) (hroom : c < n + 1) (hbig : n ≤ 1000000) (h1 : ∀ x ∈ xs, x.oneCell' = true) (hu : u.length = 1) (hu1 : ∀ x ∈ u, x.oneCell' = true) (hvb : w.heap[vb]? = some (.cells u.toArray 69 (0, 0))) :
    Calls Try.prog 48 #[.slice (some ⟨g, 0, none⟩) n c, .int .i64 i, .slice (some ⟨vb, 0, none⟩) 1 1] w (InsPost_ptr w (.slice (some ⟨g, 0, none⟩) n c) n (xs.take (i * 1) ++ u ++ xs.drop (i * 1))) := by
  obtain ⟨i0, hi0, hz0, hz1, hz2⟩ := info_parts nodePtrInfo
  obtain ⟨cur, hcur, hcs, hnc, hcm⟩ := own_plain hown
  have hxl := hown.1
  have hgw : g < w.heap.size := (Array.getElem?_eq_some_iff.1 hcur).1
  have hvw : vb < w.heap.size := (Array.getElem?_eq_some_iff.1 hvb).1
  have hsz : (Try.prog.info? 69).map (·.size) = some 1 := by rw [hi0]; simp [hz1]
  have hvs : ∀ j x, u[j]? = some x → w.cell? ⟨vb, j, none⟩ = some x := fun j x hx => by
    simp only [World.cell?, hvb]
    simpa using hx
  have hkk : (n : Int) + 1 - (i : Int) = ((n + 1 - i : Nat) : Int) := by omega
  have hik : i + (n + 1 - i) = n + 1 := by omega
  have hold : (Builtin.firstCells i0.size i (.slice (some ⟨g, 0, none⟩) i c)).run Try.prog w.drew = .ok (xs.take (i * 1)).toArray w.drew := by
    rw [hz1]
    exact run_firstCells_some w.drew 1 i ⟨g, 0, none⟩ i c (xs.take (i * 1)) (by rw [List.length_take]; omega) (fun j x hj => by
      rw [addr_add', Nat.zero_add]
      show w.cell? _ = _
      rw [List.getElem?_take] at hj
      split at hj
      · rw [hown.cellAt j (by omega)]; exact hj
      · cases hj)
  have hrz : ∀ ty, (Builtin.append_ #[77, 3] ty #[.slice (some ⟨g, 0, none⟩) i c, .int .i64 ((n : Int) + 1 - (i : Int))]).run Try.prog w =
      .ok (.slice (some ⟨w.heap.size, 0, none⟩) (n + 1) (grownCap w (n + 1) c 69)) (w.drew.alloc (.cells ((xs.take (i * 1)).toArray ++ Builtin.zeroCells ((.pointer none) : Value).cells (n + 1 - i) ++ Builtin.zeroCells ((.pointer none) : Value).cells (grownCap w (n + 1) c 69 - (n + 1))) 69)) := fun ty => by
    have h := Lib.run_append_grow_zeros w 77 3 ty 69 i0 _ .i64 .i64 Try.underlying77 Try.underlying3 hi0 hz0 (some ⟨g, 0, none⟩) i c (xs.take (i * 1)) hold (n + 1 - i) (by omega) (by omega) (by omega) (by omega) (by rw [hz2]; omega) (by rw [hz2, hik]; exact growslice_fits hroom (by omega))
    rw [hik] at h
    rw [hkk]
    exact h
  obtain ⟨G, hG⟩ : ∃ G, G = grownCap w (n + 1) c 69 := ⟨_, rfl⟩
  have hGn : n + 1 ≤ G := by rw [hG]; exact grownCap_ge w _ _ _
  have hGm : G ≤ maxLen := by rw [hG]; exact grownCap_le_maxLen w (n + 1) c 69 (by unfold maxLen; omega)
  have hG63 : G ≤ 9223372036854775807 := by unfold maxLen at hGm; omega
  obtain ⟨ROW, hROW⟩ : ∃ ROW : Array Value, ROW = (xs.take (i * 1)).toArray ++ Builtin.zeroCells ((.pointer none) : Value).cells (n + 1 - i) ++ Builtin.zeroCells ((.pointer none) : Value).cells (G - (n + 1)) := ⟨_, rfl⟩
  rw [← hG] at hrz
  rw [← hROW] at hrz
  have hzc : (((.pointer none) : Value).cells).size = 1 := rfl
  have hRl : ROW.size = G * 1 := by
    rw [hROW, Array.size_append, Array.size_append, size_zeroCells, size_zeroCells, hzc, List.size_toArray, List.length_take]
    omega
  have hRt : ROW.toList.take (i * 1) = xs.take (i * 1) := by
    rw [hROW, Array.toList_append, Array.toList_append, List.append_assoc, List.take_append_of_le_length (by simp; omega), List.toList_toArray, List.take_take, Nat.min_self]
  obtain ⟨W1, hW1⟩ : ∃ W1, W1 = w.drew.alloc (.cells ROW 69) := ⟨_, rfl⟩
  have how : W1.ownsRow 0 69 1 (.slice (some ⟨w.heap.size, 0, none⟩) (n + 1) G) (n + 1) (ROW.toList.take ((n + 1) * 1)) := by
    refine ⟨by rw [List.length_take, Array.length_toList]; omega, .inr ⟨w.heap.size, G, ROW, rfl, Nat.zero_le _, by rw [hW1]; exact heap_alloc_new w.drew _, hGn, hGm, hRl, rfl⟩⟩
  rw [← hW1] at hrz
  have hOld : ∀ b, b < w.heap.size → W1.heap[b]? = w.heap[b]? := fun b hb => by rw [hW1]; exact heap_alloc_old w.drew _ hb
  have hmin2 : Nat.min 1 (n + 1 - i) = 1 := by show min _ _ = _; omega
  have hrl : (ROW.toList.take ((n + 1) * 1)).length = (n + 1) * 1 := how.1
  have hcpA : ∀ (W : World), (∀ x, W.cell? x = W1.cell? x) → (∀ x, W.frozen? x = W1.frozen? x) → ∀ ty dc, (Builtin.copy_ #[77, 77] ty #[.slice (some ⟨w.heap.size, i, none⟩) (n + 1 - i) dc, .slice (some ⟨vb, 0, none⟩) 1 1]).run Try.prog W = .ok (goInt 1) (W.setCells w.heap.size (i) u) := fun W hWc hWf ty dc => by
    have h := run_copy_cellsK (P := Try.prog) W 77 77 ty 69 1 w.heap.size (i) (n + 1 - i) dc ⟨vb, 0, none⟩ 1 1 u Try.underlying77 hsz (by rw [hmin2, hu])
      (fun j x hx => by
        rw [addr_add', Nat.zero_add, hWc, World.cell?_of_block (w := w) (a := ⟨vb, j, none⟩) (hOld vb hvw)]
        exact hvs j x hx)
      (fun j hj => by rw [hWc, how.cellAt _ (by omega), List.getElem?_eq_getElem (by rw [hrl]; omega)]; rfl) (fun j hj => by rw [hWf]; exact how.frozenAt _) hu1
    rw [hmin2] at h
    exact h
  obtain ⟨tl, htl⟩ : ∃ tl, tl = xs.drop (i * 1) := ⟨_, rfl⟩
  have htll : tl.length = (n - i) * 1 := by rw [htl, List.length_drop, hxl]; omega
  have how2 := own_setCells u (i) how
  have hgN : g ≠ w.heap.size := by omega
  have hmin1 : Nat.min (n - i) (n - i) = n - i := by show min _ _ = _; omega
  have hcpB : ∀ (W : World), (∀ x, W.cell? x = (W1.setCells w.heap.size (i) u).cell? x) → (∀ x, W.frozen? x = (W1.setCells w.heap.size (i) u).frozen? x) → ∀ ty dc sc, (Builtin.copy_ #[77, 77] ty #[.slice (some ⟨w.heap.size, i + 1, none⟩) (n - i) dc, .slice (some ⟨g, i, none⟩) (n - i) sc]).run Try.prog W = .ok (goInt ((n - i : Nat) : Int)) (W.setCells w.heap.size (i + 1) tl) := fun W hWc hWf ty dc sc => by
    have h := run_copy_cellsK (P := Try.prog) W 77 77 ty 69 1 w.heap.size (i + 1) (n - i) dc ⟨g, i, none⟩ (n - i) sc tl Try.underlying77 hsz (by rw [hmin1]; exact htll)
      (fun j x hx => by
        have hlt := (List.getElem?_eq_some_iff.1 hx).1
        rw [addr_add', hWc, World.cell?_setCells_out _ _ _ _ _ (fun h _ => absurd h hgN), World.cell?_of_block (w := w) (a := ⟨g, _, none⟩) (hOld g hgw)]
        rw [htl, List.getElem?_drop] at hx
        rw [hown.cellAt _ (by omega)]
        rw [Nat.mul_one] at hx; exact hx)
      (fun j hj => by rw [hWc, how2.cellAt _ (by omega), List.getElem?_eq_getElem (by rw [layL_length, hrl]; omega)]; rfl)
      (fun j hj => by rw [hWf]; exact how2.frozenAt _) (fun x hx => h1 x (by rw [htl] at hx; exact List.mem_of_mem_drop hx))
    rw [hmin1] at h
    exact h
  have hfin : ∀ W : World, W.heap = ((W1.setCells w.heap.size (i) u).setCells w.heap.size (i + 1) tl).heap → W.os = w.os ∧ W.tape = w.tape ∧ W.output = w.output → InsPost_ptr w (.slice (some ⟨g, 0, none⟩) n c) n (xs.take (i * 1) ++ u ++ xs.drop (i * 1)) (.returned (.slice (some ⟨w.heap.size, 0, none⟩) (n + 1) G)) W := fun W hWh hWo => by
    have h3 := own_setCells tl (i + 1) how2
    have h4 := setCells_grown w.heap.size tl (i + 1) (W1.setCells w.heap.size (i) u)
    have h5 := setCells_grown w.heap.size u (i) W1
    have e : layL (layL (ROW.toList.take ((n + 1) * 1)) (i) u) (i + 1) tl = xs.take (i * 1) ++ u ++ xs.drop (i * 1) := by
      have ea : layL (ROW.toList.take ((n + 1) * 1)) (i) u = xs.take (i) ++ u ++ (ROW.toList.take ((n + 1) * 1)).drop (i + u.length) := by
        rw [layL_eq _ _ _ (by rw [hrl]; omega), List.take_take, Nat.min_eq_left (by omega)]
        rw [Nat.mul_one] at hRt
        rw [hRt]
      have hlen1 : (xs.take (i) ++ u).length = i + 1 := by rw [List.length_append, List.length_take, hu]; omega
      rw [layL_eq _ _ _ (by rw [layL_length, hrl]; omega), List.drop_of_length_le (by rw [layL_length, hrl]; omega), List.append_nil, ea]
      have := List.take_left (l₁ := xs.take (i) ++ u) (l₂ := (ROW.toList.take ((n + 1) * 1)).drop (i + u.length))
      rw [hlen1] at this
      rw [this, htl]
      rw [Nat.mul_one]
    rw [e] at h3
    have hs1 : W1.heap.size = w.heap.size + 1 := by rw [hW1]; simp
    have hsw : W.heap.size = w.heap.size + 1 := by rw [hWh, h4.2, h5.2, hs1]
    refine ⟨_, rfl, own_heap h3 (fun b _ => by rw [hWh]), ⟨hWo.1, hWo.2.1, hWo.2.2, by omega, fun b hb _ => ?_⟩, .inr ⟨w.heap.size, rfl, Nat.le_refl _⟩⟩
    rw [hWh]
    exact (h4.1.block b (by rw [h5.2]; omega) (fun e => by have := Option.some.inj e; omega)).trans ((h5.1.block b (by omega) (fun e => by have := Option.some.inj e; omega)).trans (hOld b hb))
  have HF := hide hfin
  subst hW1
  have hE1 : ∀ x, ((w.alloc (.cells ROW 69)).drew).cell? x = (w.drew.alloc (.cells ROW 69)).cell? x := fun x => rfl
  have hE2 : ∀ x, ((w.alloc (.cells ROW 69)).drew).frozen? x = (w.drew.alloc (.cells ROW 69)).frozen? x := fun x => rfl
  have hF1 : ∀ x, (((w.alloc (.cells ROW 69)).drew.setCells w.heap.size (i) u).drew).cell? x = ((w.drew.alloc (.cells ROW 69)).setCells w.heap.size (i) u).cell? x := fun x => rfl
  have hF2 : ∀ x, (((w.alloc (.cells ROW 69)).drew.setCells w.heap.size (i) u).drew).frozen? x = ((w.drew.alloc (.cells ROW 69)).setCells w.heap.size (i) u).frozen? x := fun x => rfl
  have hz3 : (c : Int) < (n : Int) + 1 := by omega
  have hGi : ¬ (G = i) := by omega
  have hGim : ¬ (G = i + 1) := by omega
  have hci : ¬ (c = i) := by omega
  have hz2' : ¬ ((i : Int) = (n : Int)) := by omega
  have hw1 : IntKind.i64.wrap ((i : Int) + 1) = (i : Int) + 1 := by rw [IntKind.wrap_i64]; omega
  have hb1 : (0 : Int) ≤ (i : Int) + 1 := by omega
  have hin : i ≤ n := by omega
  have htn : ((i : Int) + 1).toNat = i + 1 := by omega
  have hb3 : (i : Int) ≤ (n : Int) := by omega
  clear hkk hik hold hROW hG hRl hown how how2 hfin hcur hvb hvs hxl htll htl hu hOld hRt hrl hcs
  go_enter Try.func48, Try.ntmps48
  go_wp2_with (first
    | (at_builtin; refine Lib.wpList_append_run _ rfl _ _ _ _ rfl _ _ rfl rfl _ _ (hrz _) ?_)
    | (at_builtin; refine wpList_copy_runI _ rfl _ _ 77 77 rfl _ _ rfl rfl (hcpA _ hE1 hE2 _ _) ?_)
    | (at_builtin; refine wpList_copy_runI _ rfl _ _ 77 77 rfl _ _ rfl rfl (hcpB _ (fun _ => rfl) (fun _ => rfl) _ _ _) ?_))
  go_region_law (refine step_copy_runI rfl _ _ 77 77 rfl (.slice (some ⟨w.heap.size, i + 1, none⟩) (n - i) (G - (i + 1))) (.slice (some ⟨g, i, none⟩) (n - i) (c - i)) (by simp [Act.eval, Act.put]) (by simp [Act.eval, Act.put]) (hcpB _ hF1 hF2 3 (G - (i + 1)) (c - i)) ?_)
  go_wp2
  go_ret
  have h1 := (setCells_grown w.heap.size tl (i + 1) ((w.alloc (.cells ROW 69)).drew.setCells w.heap.size (i) u).drew).1
  have h2 := (setCells_grown w.heap.size u (i) (w.alloc (.cells ROW 69)).drew).1
  exact HF.out _ (by rw [heap_setCells_drew]; rfl) ⟨h1.os.trans h2.os, h1.tape.trans h2.tape, h1.output.trans h2.output⟩
theorem insert_ptr (v : Value) (n i vb : Nat) (xs u : List Value) (w : World) (hown : w.ownsRow 0 69 1 v n xs) (hi : i ≤ n) (hn : n ≤ 1000000) (h1 : ∀ x ∈ xs, x.oneCell' = true) (hu : u.length = 1) (hu1 : ∀ x ∈ u, x.oneCell' = true) (hvb : w.heap[vb]? = some (.cells u.toArray 69 (0, 0))) (hne : v.ownBlock ≠ some vb) :
    Calls Try.prog 48 #[v, .int .i64 i, .slice (some ⟨vb, 0, none⟩) 1 1] w (InsPost_ptr w v n (xs.take (i * 1) ++ u ++ xs.drop (i * 1))) := by
  have hxl := hown.1
  by_cases e : i = n
  · have e1 : xs.take (i * 1) ++ u ++ xs.drop (i * 1) = xs ++ u := by rw [List.take_of_length_le (by omega), List.drop_of_length_le (by omega), List.append_nil]
    rw [e1]
    exact insert_end_ptr v n i vb xs u w hown e hn hu hu1 hvb
  · rcases hown.2 with ⟨_, h0⟩ | ⟨g, c, cur, rfl, _⟩
    · omega
    · by_cases hr : n + 1 ≤ c
      · exact insert_shift_ptr g n c i vb xs u w hown (by omega) hr h1 hu hu1 hvb (fun e => hne (by rw [e]; rfl))
      · exact insert_grow_ptr g n c i vb xs u w hown (by omega) (by omega) hn h1 hu hu1 hvb
end Go.Proofs.Ytobgcaemnpkbmaa
