/-
  What the reference's 'Parent' answers.
-/
import Derived.Test.YtobgcaemnpkbmaaSingle2
namespace Go.Proofs.Ytobgcaemnpkbmaa
open Go.RowKit

/-- The last of the first m nodes whose depth is one less than node i's; -1: none. -/
def parentOf (L : Nat → Nod) (i : Nat) : Nat → Int
  | 0 => -1
  | j + 1 => if (L j).d = (L i).d - 1 then (j : Int) else parentOf L i j

theorem ret_int {a b : Int} (h : a = b) : Ending.returned (.int .i64 a) = .returned (.int .i64 b) := by rw [h]

set_option maxHeartbeats 400000 in
theorem parent_any (b o n c : Nat) (L : Nat → Nod) (i : Nat) (w : World) (hn : n ≤ maxLen) (hi : i < n) (h : NodesAt w b o n L) (hd1 : 1 ≤ (L i).d) (hd2 : (L i).d ≤ 11) :
    Calls Try.prog 26 #[.slice (some ⟨b, o, none⟩) n c, .int .i64 i] w fun e w' => e = .returned (.int .i64 (parentOf L i i)) ∧ Below w.heap.size w w' := by
  unfold maxLen at hn
  have H := hide h
  have c0 := (h.node i hi).c0
  clear h
  go_enter Try.func26, Try.ntmps26
  go_wp2
  go_loopw [5] (fun j wr => ∃ m q : Nat, m ≤ i ∧ j = .int .i64 ((m : Int) - 1) ∧ Hid (parentOf L i m = parentOf L i i) ∧ wr = w.drewN q) (fun j _ => (intOf j + 1).toNat)
  case atStart => exact ⟨i, 0, Nat.le_refl _, rfl, rfl, rfl⟩
  case round =>
    obtain ⟨m, q, hm, rfl, hg, rfl⟩ := hrel
    cases m with
    | zero =>
      go_wp2
      go_ret
      exact ⟨ret_int hg.out, drewN_of (Below.refl _ _) _⟩
    | succ p =>
      have e : (((p + 1 : Nat) : Int) - 1) = p := by omega
      rw [e]
      clear e
      have d0 := (H.out.node p (by omega)).c0
      by_cases hlt : (L p).d = (L i).d - 1
      · have HX := hide (show parentOf L i i = p by rw [← hg.out, parentOf, if_pos hlt])
        have db : ((L p).d == (L i).d - 1) = true := by simp [hlt]
        clear hg hlt
        go_wp2
        go_big_quiet (fail)
        go_wp2
        go_ret
        exact ⟨ret_int HX.out.symm, drewN_of (drewN_of (Below.refl _ _) _) _⟩
      · have HX := hide (show parentOf L i p = parentOf L i i by rw [← hg.out, parentOf, if_neg hlt])
        have db : ((L p).d == (L i).d - 1) = false := by simp [hlt]
        clear hg hlt
        go_wp2
        go_big_quiet (fail)
        go_wp2
        go_roundw
        case rel => exact ⟨p, _, by omega, by go_num, HX, rfl⟩
        case measure => simp [intOf]

end Go.Proofs.Ytobgcaemnpkbmaa
