/- Hd -/
import Derived.Test.YtobgcaemnpkbmaaKc46
namespace Go.Proofs.Ytobgcaemnpkbmaa
open Go.RowKit
theorem madeR_keys {L : Nat → Nod} {n : Nat} (h : ∀ i, i < n → I64 (L i).k) : Keys (madeR L n) := fun m hm => by
  obtain ⟨i, hi, rfl⟩ := List.getElem_of_mem hm
  rw [madeR_get]
  rw [madeR_length] at hi
  exact h i hi
theorem knA_keys : ∀ i, i < 3 → I64 (knA i).k := fun i hi => by
  match i, hi with
  | 0, _ => exact ⟨by decide, by decide⟩
  | 1, _ => exact ⟨by decide, by decide⟩
  | 2, _ => exact ⟨by decide, by decide⟩
theorem knB_keys : ∀ i, i < 3 → I64 (knB i).k := fun i hi => by
  match i, hi with
  | 0, _ => exact ⟨by decide, by decide⟩
  | 1, _ => exact ⟨by decide, by decide⟩
  | 2, _ => exact ⟨by decide, by decide⟩
theorem kn_apply (ρ : Roles) (nb : Int → Nat) (mb q db : Nat) (w : World) (h : DomAt ρ nb mb q db w (madeR knA 3) 3) (ao : Option Addr) (c : Nat) (hrow : w.ownsRow 0 43 8 (.slice ao 1 c) 1 (patsL [knP])) (hfree : ∀ a, ao = some a → ρ a.block = none) :
    Calls Try.prog 15 #[.pointer (some ⟨db, 0, none⟩), .slice ao 1 c] w fun e w' => e = .returned (.tuple #[.int .i64 0, .int .i64 0]) ∧ ∃ nb' ρ', Wrote ρ ρ' w w' ∧ DomAt ρ' nb' mb q db w' knR 3 := by
  refine (dapply ρ nb mb q db w (madeR knA 3) 3 h ao 1 c (patAt [knP]) (by decide) (by decide) (pats_row hrow rfl) (fun _ => hfree) (fun i hi => ?_)).mono ?_
  · have : i = 0 := by omega
    subst this
    refine ⟨⟨?_, ?_, ?_⟩, ⟨?_, ?_, ?_⟩⟩
    · show (0 : Nat) ≤ _; exact Nat.zero_le _
    · show (0 : Nat) ≤ _; exact Nat.zero_le _
    · show (0 : Nat) ≤ _; exact Nat.zero_le _
    · exact ⟨by decide, by decide⟩
    · exact ⟨by decide, by decide⟩
    · exact ⟨by decide, by decide⟩
  · rintro e w' ⟨x, y, rfl, k, hk, hr, ⟨nb', ρ', hw, hd⟩, hout⟩
    rcases hout with ⟨rfl, rfl, rfl⟩ | ⟨h1, h2, _⟩
    · refine ⟨rfl, nb', ρ', hw, ?_⟩
      have e1 : (runP (madeR knA 3) 3 (patAt [knP]) 1).1 = knR := kn_did
      have e2 : (runP (madeR knA 3) 3 (patAt [knP]) 1).2 = 3 := by kernel_rfl
      rw [e1, e2] at hd
      exact hd
    · have : k = 0 := by omega
      subst this
      have e1 : canP (runP (madeR knA 3) 3 (patAt [knP]) 0).1 (runP (madeR knA 3) 3 (patAt [knP]) 0).2 (patAt [knP] 0) = canP (madeR knA 3) 3 knP := rfl
      rw [e1, kn_can] at h2
      cases h2
theorem kn_same {N : List TN} (h : TellL knR [(0, 0), (1, 1), (2, 1)] N) (ha : ∀ n, n ∈ N → n.an = n.ats.length) : N.length = 3 ∧ ∀ i, i < 3 → (nodsK N i).d = (knB i).d ∧ (nodsK N i).t = (knB i).t ∧ (nodsK N i).k = (knB i).k ∧ (nodsK N i).x = (knB i).x ∧ (nodsK N i).an = (knB i).an ∧ ∀ j, j < (knB i).an → (nodsK N i).nm j = (knB i).nm j ∧ (nodsK N i).vl j = (knB i).vl j := by
  have hl : N.length = 3 := h.1
  refine ⟨hl, fun i hi => ?_⟩
  have hn : i < N.length := by omega
  have ht := h.2 i (by exact hi) hn
  have hA := ha _ (List.getElem_mem hn)
  rw [nodsK_lt hn]
  obtain ⟨hx, h1, h2, h3, h4, h5⟩ := ht
  rw [h5] at hA
  match i, hi with
  | 0, _ => exact ⟨h1, h2, h3, h4, hA, fun j hj => absurd hj (Nat.not_lt_zero _)⟩
  | 1, _ => exact ⟨h1, h2, h3, h4, hA, fun j hj => absurd hj (Nat.not_lt_zero _)⟩
  | 2, _ => exact ⟨h1, h2, h3, h4, hA, fun j hj => absurd hj (Nat.not_lt_zero _)⟩
theorem knB_blk {w : World} {b : Nat} {t : TypeId} (h : w.heap[b]? = some (.cells (knCells 2 1) t (0, 0))) : ListAt w (some ⟨b, 0, none⟩) 3 knB := by
  intro _
  refine ⟨b, 0, rfl, lt_of_blk h, fun i hi => ?_⟩
  have small : ∀ n : Nat, n ≤ 8 → n ≤ maxLen := fun n h => by unfold maxLen; omega
  match i, hi with
  | 0, _ => exact ⟨cell_of_blk h 0 _ rfl, cell_of_blk h 1 _ rfl, cell_of_blk h 2 _ rfl, cell_of_blk h 3 _ rfl, cell_of_blk h 4 _ rfl, ⟨Nat.zero_le _, small _ (by decide), small _ (by decide), fun j hj => absurd hj (Nat.not_lt_zero _)⟩⟩
  | 1, _ => exact ⟨cell_of_blk h 5 _ rfl, cell_of_blk h 6 _ rfl, cell_of_blk h 7 _ rfl, cell_of_blk h 8 _ rfl, cell_of_blk h 9 _ rfl, ⟨Nat.zero_le _, small _ (by decide), small _ (by decide), fun j hj => absurd hj (Nat.not_lt_zero _)⟩⟩
  | 2, _ => exact ⟨cell_of_blk h 10 _ rfl, cell_of_blk h 11 _ rfl, cell_of_blk h 12 _ rfl, cell_of_blk h 13 _ rfl, cell_of_blk h 14 _ rfl, ⟨Nat.zero_le _, small _ (by decide), small _ (by decide), fun j hj => absurd hj (Nat.not_lt_zero _)⟩⟩
theorem kn_tree (ρ : Roles) (nb : Int → Nat) (mb q db : Nat) (w : World) (h : DomAt ρ nb mb q db w knR 3) :
    Calls Try.prog 18 #[.pointer (some ⟨db, 0, none⟩)] w fun e w' => ∃ ao c N, e = .returned (.slice ao 3 c) ∧ ListAt w' ao 3 (nodsK N) ∧ (∀ i, i < 3 → (nodsK N i).d = (knB i).d ∧ (nodsK N i).t = (knB i).t ∧ (nodsK N i).k = (knB i).k ∧ (nodsK N i).x = (knB i).x ∧ (nodsK N i).an = (knB i).an ∧ ∀ j, j < (knB i).an → (nodsK N i).nm j = (knB i).nm j ∧ (nodsK N i).vl j = (knB i).vl j) ∧ Below w.heap.size w w' := by
  refine (dtree ρ nb mb q db w knR 3 h 0 (by decide) rfl).mono ?_
  rintro e w' ⟨v, rfl, N, hT, hL, hb⟩
  have e1 : walkP knR knR.length 0 0 = [(0, 0), (1, 1), (2, 1)] := kn_walk
  rw [e1] at hL
  obtain ⟨h3, hs⟩ := kn_same hL fun n hn => (hT.node n hn).an
  obtain ⟨ao, c, rfl⟩ := own_shape hT.row
  have hl := hT.listK rfl (by omega) (tellK_few hL fun n hn => by
    obtain ⟨av, kv, hp⟩ := h.dom.node n hn
    exact hp.few)
  rw [h3] at hl ⊢
  exact ⟨ao, c, N, rfl, hl, hs, hb⟩
theorem kn_ids (ρ : Roles) (nb : Int → Nat) (mb q db : Nat) (w : World) (h : DomAt ρ nb mb q db w knR 3) :
    Calls Try.prog 16 #[.pointer (some ⟨db, 0, none⟩)] w fun e w' => ∃ g c, e = .returned (.slice (some ⟨g, 0, none⟩) 3 c) ∧ w'.cell? ⟨g, 1, none⟩ = some (.int .i64 3) ∧ w'.cell? ⟨g, 2, none⟩ = some (.int .i64 2) ∧ Below w.heap.size w w' := by
  refine (dids ρ nb mb q db w knR 3 h 0 (by decide) rfl).mono ?_
  rintro e w' ⟨v, rfl, hr, hb⟩
  have e1 : widP knR knR.length 0 = [1, 3, 2] := kn_wid
  rw [e1] at hr
  obtain ⟨ao, c, rfl⟩ := own_shape hr
  obtain ⟨g, hl, e, _, c1⟩ := row_at hr (j := 1) (by decide)
  obtain ⟨g2, hl2, e2, _, c2⟩ := row_at hr (j := 2) (by decide)
  rw [e] at e2
  cases e2
  subst e
  exact ⟨g, c, rfl, c1, c2, hb⟩
theorem kn_b1 {w1 w2 : World} {o : Obj} (h : Below (w1.heap.size + 1) (w1.alloc o) w2) : Below w1.heap.size w1 w2 := ((Below.refl w1.heap.size w1).alloc (Nat.le_refl _) o).trans (h.mono (Nat.le_succ _))
theorem kn_free {ρ : Roles} {nb : Int → Nat} {mb q db : Nat} {w : World} {R : List RN} {last : Int} (h : DomAt ρ nb mb q db w R last) {g : Nat} (hg : w.heap.size + 1 ≤ g) : ρ g = none := by
  cases e : ρ g with
  | none => rfl
  | some v => have := h.dom.low g (by rw [e]; rfl); omega
theorem kn_want {ρ ρ3 : Roles} {nb : Int → Nat} {mb q db : Nat} {w1 w2 w3 w4 : World} {R : List RN} {last : Int} (h : DomAt ρ nb mb q db w1 R last) {t : TypeId} (h2 : Below (w1.heap.size + 1) (w1.alloc (.cells (knCells 2 1) t)) w2) (h3 : Wrote ρ ρ3 w2 w3) (h4 : Below w3.heap.size w3 w4) : w4.heap[w1.heap.size]? = some (.cells (knCells 2 1) t (0, 0)) := by
  have hz : (w1.alloc (.cells (knCells 2 1) t)).heap.size = w1.heap.size + 1 := by simp
  have s2 := h2.size
  have s3 := h3.1.size
  have hρ : ρ w1.heap.size = none := by
    cases e : ρ w1.heap.size with
    | none => rfl
    | some v => have := h.dom.low w1.heap.size (by rw [e]; rfl); omega
  rw [h4.block _ (by omega), h3.1.block _ (by omega) (by rw [hρ]; simp), h2.block _ (by omega)]
  show (w1.heap.push _)[w1.heap.size]? = _
  simp
theorem kn_cell {ρ ρ3 : Roles} {nb : Int → Nat} {mb q db : Nat} {w1 w2 w3 w4 w5 w6 : World} {R : List RN} {last : Int} (h : DomAt ρ nb mb q db w1 R last) {g : Nat} (hg : w1.heap.size + 1 ≤ g) {v : Value} (hc : w2.cell? ⟨g, 0, none⟩ = some v) (h3 : Wrote ρ ρ3 w2 w3) (h4 : Below w3.heap.size w3 w4) (h5 : Below w4.heap.size w4 w5) (h6 : Below w5.heap.size w5 w6) : w6.cell? ⟨g, 0, none⟩ = some v := by
  have hl : g < w2.heap.size := World.block_lt_of_cell? _ _ hc
  have s3 := h3.1.size
  have s4 := h4.size
  have s5 := h5.size
  rw [← hc]
  refine World.cell?_of_block ?_
  show w6.heap[g]? = w2.heap[g]?
  rw [h6.block _ (by omega), h5.block _ (by omega), h4.block _ (by omega), h3.1.block _ hl (by rw [kn_free h hg]; simp)]
set_option maxHeartbeats 2000000 in
set_option maxRecDepth 100000 in
theorem known_any (w : World) : Calls Try.prog 13 #[] w fun e w' => e = .returned (.bool true) ∧ Below w.heap.size w w' := by
  have HC1 : Hid (Calls Try.prog 14 #[.slice (some ⟨w.heap.size, 0, none⟩) 3 3] (w.alloc (.cells (knCells 1 2) 28)) fun e w' => ∃ ρ nb mb q db, e = .returned (.tuple #[.pointer (some ⟨db, 0, none⟩), .int .i64 0, .int .i64 0]) ∧ w.heap.size ≤ db ∧ (∀ b, (ρ b).isSome = true → w.heap.size ≤ b) ∧ DomAt ρ nb mb q db w' (madeR knA 3) 3 ∧ Below w.heap.size w w') := hide (by
    have hb : Below w.heap.size w (w.alloc (.cells (knCells 1 2) 28)) := (Below.refl _ _).alloc (Nat.le_refl _) _
    refine (dnew_ok w.heap.size 0 3 3 knA _ (by decide) (knA_list w _) knA_out).mono ?_
    rintro e w' ⟨ρ, nb, mb, q, db, h1, h2, h3, h4, h5⟩
    exact ⟨ρ, nb, mb, q, db, h1, Nat.le_trans hb.size h2, fun b e => Nat.le_trans hb.size (h3 b e), h4, hb.trans (h5.mono hb.size)⟩)
  have HC2 : Hid (∀ ρ nb mb q db w1, DomAt ρ nb mb q db w1 (madeR knA 3) 3 → Calls Try.prog 20 #[.pointer (some ⟨db, 0, none⟩), .slice (some ⟨w1.heap.size, 0, none⟩) 3 3] (w1.alloc (.cells (knCells 2 1) 28)) fun e w' => ∃ g c, e = .returned (.tuple #[.slice (some ⟨g, 0, none⟩) 1 c, .int .i64 0, .int .i64 0]) ∧ w1.heap.size + 1 ≤ g ∧ w'.cell? ⟨g, 0, none⟩ = some (.int .i64 2) ∧ w'.ownsRow 0 43 8 (.slice (some ⟨g, 0, none⟩) 1 c) 1 (patsL [knP]) ∧ Below (w1.heap.size + 1) (w1.alloc (.cells (knCells 2 1) 28)) w') := hide fun ρ nb mb q db w1 hd => by
    have hb : Below w1.heap.size w1 (w1.alloc (.cells (knCells 2 1) 28)) := (Below.refl _ _).alloc (Nat.le_refl _) _
    have hz : (w1.alloc (.cells (knCells 2 1) 28)).heap.size = w1.heap.size + 1 := by simp
    refine (ddiff ρ nb mb q db _ (madeR knA 3) 3 (hd.below hb) (madeR_keys knA_keys) (by decide) (some ⟨w1.heap.size, 0, none⟩) 3 3 knB (by decide) (by decide) (knB_list w1 _) knB_keys).mono ?_
    rintro e w' ⟨v, x, y, rfl, rfl, rfl, h1, h2⟩
    rw [kn_diffE] at h1 ⊢
    rw [if_pos rfl, kn_diffP] at h1
    rw [hz] at h1 h2
    rcases h1.2 with ⟨_, e0⟩ | ⟨g, cap, cur, rfl, hg, h3⟩
    · cases e0
    · exact ⟨g, cap, rfl, hg, h1.cellAt 0 (by decide), ⟨h1.1, .inr ⟨g, cap, cur, rfl, Nat.zero_le _, h3⟩⟩, h2⟩
  go_enter Try.func13, Try.ntmps13
  go_wp2_with (first | (go_at_call 14; refine (unhide HC1).mono ?_; rintro e w1 ⟨ρ, nb, mb, q, db, rfl, hdb, hρ, hD1, hb1⟩; have HD1 := hide hD1; have HB1 := hide hb1; have HP1 := hide hρ; clear hD1 hb1 hρ hdb) | (go_at_call 20; refine (unhide HC2 _ _ _ _ _ _ HD1.out).mono ?_; rintro e w2 ⟨g, c, rfl, hg, cg, hr2, hb2⟩; have HR2 := hide hr2; have HB2 := hide hb2; have HG := hide hg; have CG := hide cg; clear hr2 hb2 hg cg) | (go_at_call 15; refine (kn_apply ρ nb mb q db w2 (HD1.out.below (kn_b1 HB2.out)) _ c HR2.out (fun a e => by cases e; exact kn_free HD1.out HG.out)).mono ?_; rintro e w3 ⟨rfl, nb3, ρ3, hw3, hD3⟩; have HW3 := hide hw3; have HD3 := hide hD3; clear hw3 hD3) | (go_at_call 18; refine (kn_tree ρ3 nb3 mb q db w3 HD3.out).mono ?_; rintro e w4 ⟨a4, c4, N4, rfl, hl4, hs4, hb4⟩; have HL4 := hide hl4; have HS4 := hide hs4; have HB4 := hide hb4; clear hl4 hs4 hb4) | (go_at_call 17; refine (keepSame_any a4 _ 3 c4 3 (nodsK N4) knB w4 (by decide) HL4.out (knB_blk (t := 28) (kn_want HD1.out HB2.out HW3.out HB4.out)) HS4.out).mono ?_; rintro e w5 ⟨rfl, hb5⟩; have HB5 := hide hb5; clear hb5) | (go_at_call 16; refine (kn_ids ρ3 nb3 mb q db w5 ((HD3.out.below HB4.out).below HB5.out)).mono ?_; rintro e w6 ⟨g6, c6, rfl, k1, k2, hb6⟩; have cg6 := kn_cell HD1.out HG.out CG.out HW3.out HB4.out HB5.out hb6; have lg := World.block_lt_of_cell? _ _ cg6; have lg6 := World.block_lt_of_cell? _ _ k1; have HB6 := hide hb6; clear hb6))
  go_ret
  refine ⟨rfl, ?_⟩
  have b2 := HB1.out.trans ((kn_b1 HB2.out).mono HB1.out.size)
  have b3 : Below w.heap.size w w3 := b2.trans ⟨HW3.out.1.os, HW3.out.1.tape, HW3.out.1.output, HW3.out.1.size, fun b hb => HW3.out.1.block b (Nat.lt_of_lt_of_le hb b2.size) (fun e => by have := HP1.out b e; omega)⟩
  have b4 := b3.trans (HB4.out.mono b3.size)
  have b5 := b4.trans (HB5.out.mono b4.size)
  exact b5.trans (HB6.out.mono b5.size)
end Go.Proofs.Ytobgcaemnpkbmaa
