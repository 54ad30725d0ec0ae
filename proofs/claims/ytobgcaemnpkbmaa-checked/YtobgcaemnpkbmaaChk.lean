/-
  What 'tree.Check' and 'batten.Check' answer of a list.
-/
import Derived.Test.YtobgcaemnpkbmaaMay
namespace Go.Proofs.Ytobgcaemnpkbmaa
open Go.RowKit

/-- The first number below n that is not good. -/
def search (ok : Nat → Bool) (n : Nat) : Int × Int := match (List.range n).find? (fun i => !ok i) with
  | some i => (2, i)
  | none => (0, 0)
theorem search_hit {ok : Nat → Bool} {n k : Nat} (hk : k < n) (h : ∀ j, j < k → ok j = true) (hb : ok k = false) : search ok n = (2, (k : Int)) := by
  unfold search
  have : (List.range n).find? (fun i => !ok i) = some k := by
    rw [List.find?_eq_some_iff_append]
    refine ⟨by simp [hb], List.range k, (List.range (n - k - 1)).map (k + 1 + ·), ?_, ?_⟩
    · have e1 : List.range n = List.range (k + (n - k)) := by congr 1; omega
      have e2 : n - k = (n - k - 1) + 1 := by omega
      rw [e1, List.range_add, e2, List.range_succ_eq_map]
      simp [Function.comp_def, Nat.add_assoc, Nat.add_comm 1]
    · intro a ha
      simp [h a (List.mem_range.1 ha)]
  rw [this]
theorem search_all {ok : Nat → Bool} {n : Nat} (h : ∀ j, j < n → ok j = true) : search ok n = (0, 0) := by
  unfold search
  have : (List.range n).find? (fun i => !ok i) = none := by
    rw [List.find?_eq_none]
    intro a ha
    simp [h a (List.mem_range.1 ha)]
  rw [this]

/-- What is told of a list of n nodes. -/
def checkOut (ok : Nat → Bool) (n : Nat) : Int × Int := if n < 1 ∨ 400 < n then (1, 0) else search ok n

/-- A list of nodes behind a slice's value. -/
def ListAt (w : World) (ao : Option Addr) (n : Nat) (L : Nat → Nod) : Prop := 0 < n → ∃ b o, ao = some ⟨b, o, none⟩ ∧ NodesAt w b o n L

theorem ListAt.below {w w' : World} {ao : Option Addr} {n : Nat} {L : Nat → Nod} (h : ListAt w ao n L) (hb : Below w.heap.size w w') : ListAt w' ao n L := fun hn =>
  let ⟨b, o, e, g⟩ := h hn
  ⟨b, o, e, g.below hb⟩

theorem mayB_depth {L : Nat → Nod} {j : Nat} (h : mayB L j = true) : 0 ≤ (L j).d ∧ (L j).d ≤ 11 := by
  unfold mayB at h
  split at h
  · next e => subst e; simp at h; omega
  · simp [depthB] at h; omega

theorem ret_two {a b : Int} {p : Int × Int} (h : p = (a, b)) : Ending.returned (.tuple #[.int .i64 a, .int .i64 b]) = .returned (.tuple #[.int .i64 p.1, .int .i64 p.2]) := by rw [h]

theorem mayBe_is (b o n c : Nat) (L : Nat → Nod) (i : Nat) (r : Bool) (hr : mayB L i = r) (w : World) (hn : n ≤ maxLen) (hi : i < n) (h : NodesAt w b o n L) (hall : ∀ j, j < i → mayB L j = true) :
    Calls Try.prog 33 #[.slice (some ⟨b, o, none⟩) n c, .int .i64 i] w fun e w' => e = .returned (.bool r) ∧ Below w.heap.size w w' := by
  subst hr
  by_cases h0 : i = 0
  · subst h0
    exact mayBe_zero b o n c L w hn hi h
  · have hd := mayB_depth (hall (i - 1) (by omega))
    exact mayBe_next b o n c L i w hn (by omega) hi h hd.1 hd.2

set_option maxHeartbeats 400000 in
theorem treeCheck_any (ao : Option Addr) (n c : Nat) (L : Nat → Nod) (w : World) (hn : n ≤ maxLen) (h : ListAt w ao n L) :
    Calls Try.prog 23 #[.slice ao n c] w fun e w' => e = .returned (.tuple #[.int .i64 (checkOut (mayB L) n).1, .int .i64 (checkOut (mayB L) n).2]) ∧ Below w.heap.size w w' := by
  have HN := hide hn
  unfold maxLen at hn
  by_cases hb : n < 1 ∨ 400 < n
  · have HX : Hid (checkOut (mayB L) n = (1, 0)) := hide (by unfold checkOut; rw [if_pos hb])
    clear h
    rcases hb with hb | hb
    all_goals
      go_enter Try.func23, Try.ntmps23
      go_wp2
      go_ret2
      exact ⟨ret_two HX.out, Below.refl _ _⟩
  · have h1 : 1 ≤ n := by omega
    have h4 : n ≤ 400 := by omega
    have HX : Hid (checkOut (mayB L) n = search (mayB L) n) := hide (by unfold checkOut; rw [if_neg hb])
    clear hb
    obtain ⟨b, o, rfl, hL⟩ := h (by omega)
    have HL := hide hL
    clear h hL
    go_enter Try.func23, Try.ntmps23
    go_wp2
    go_loopw [4, 15] (fun _ i wr => ∃ k : Nat, k ≤ n ∧ i = .int .i64 k ∧ Hid (∀ j, j < k → mayB L j = true) ∧ Below w.heap.size w wr) (fun _ i _ => n - (intOf i).toNat)
    case atStart => exact ⟨0, Nat.zero_le _, rfl, hide (fun j h => absurd h (Nat.not_lt_zero _)), Below.refl _ _⟩
    case round =>
      obtain ⟨k, hk, rfl, hall, hbel⟩ := hrel
      by_cases hlt : k < n
      · have HL2 := hide (HL.out.below hbel)
        cases hM : mayB L k with
        | true =>
          have HS := hide (upto_step hall.out hM)
          have HM := hide hM
          clear hM
          go_wp2_with (go_at_call 33; refine (mayBe_is b o n c L k true (unhide HM) _ (unhide HN) hlt (unhide HL2) (unhide hall)).mono ?_; rintro e w2 ⟨rfl, hb2⟩)
          go_roundw
          case rel => exact ⟨k + 1, by omega, by go_num, HS, hbel.trans (hb2.mono hbel.size)⟩
          case measure => simp [intOf]; omega
        | false =>
          have HS := hide (HX.out.trans (search_hit hlt hall.out hM))
          have HM := hide hM
          clear hM
          go_wp2_with (go_at_call 33; refine (mayBe_is b o n c L k false (unhide HM) _ (unhide HN) hlt (unhide HL2) (unhide hall)).mono ?_; rintro e w2 ⟨rfl, hb2⟩)
          go_ret2
          exact ⟨ret_two HS.out, hbel.trans (hb2.mono hbel.size)⟩
      · have HS := hide (HX.out.trans (search_all fun j hj => hall.out j (by omega)))
        go_wp2
        go_ret2
        exact ⟨ret_two HS.out, hbel⟩

end Go.Proofs.Ytobgcaemnpkbmaa
