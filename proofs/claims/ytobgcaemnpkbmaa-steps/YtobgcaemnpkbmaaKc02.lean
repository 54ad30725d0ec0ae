/- Leaf -/
import Derived.Test.YtobgcaemnpkbmaaRows
import Derived.Test.YtobgcaemnpkbmaaKc01
import Derived.WalkKit
import Derived.WalkSpells
import Derived.WalkLawsBesides
namespace Go.Proofs.Ytobgcaemnpkbmaa
open Go.RowKit
set_option maxHeartbeats 400000 in
theorem isText_any (s : ByteArray) (w : World) (hs : s.size ≤ maxLen) :
    Calls Try.prog 63 #[.string s] w fun e w' => e = .returned (.bool (textB s)) ∧ w' = w := by
  unfold maxLen at hs
  go_enter Try.func63, Try.ntmps63
  go_wp2
  go_ret
  exact ⟨ret_bool (by unfold textB; simp; omega), rfl⟩
set_option maxHeartbeats 400000 in
theorem isName_any (s : ByteArray) (w : World) (hs : s.size ≤ maxLen) :
    Calls Try.prog 61 #[.string s] w fun e w' => e = .returned (.bool (nameB s)) ∧ w' = w := by
  unfold maxLen at hs
  by_cases hb : s.size < 1 ∨ 8 < s.size
  · have HB : Hid (nameB s = false) := nameB_bad hb
    rcases hb with h | h
    all_goals
      go_enter Try.func61, Try.ntmps61
      go_wp2
      go_ret
      exact ⟨ret_bool HB.out.symm, rfl⟩
  · have h1 : 1 ≤ s.size := by omega
    have h8 : s.size ≤ 8 := by omega
    clear hb
    go_enter Try.func61, Try.ntmps61
    go_wp2
    go_loop [3, 14] (fun _ i => ∃ k : Nat, k ≤ s.size ∧ i = .int .i64 k ∧ Hid (∀ j, (hj : j < s.size) → j < k → letB s[j] = true)) (fun _ i => s.size - (intOf i).toNat)
    case atStart => exact ⟨0, Nat.zero_le _, rfl, fun j _ h => absurd h (Nat.not_lt_zero _)⟩
    case round =>
      obtain ⟨k, hk, rfl, hall⟩ := hrel
      by_cases hlt : k < s.size
      · by_cases hL : letB s[k] = true
        · obtain ⟨hlo, hhi⟩ := letB_true hL
          have HS : Hid (∀ j, (hj : j < s.size) → j < k + 1 → letB s[j] = true) := all_step hlt hall.out hL
          clear hall hL
          go_wp2
          go_round
          case rel => exact ⟨k + 1, by omega, by go_num, HS⟩
          case measure => simp [intOf]; omega
        · have HN : Hid (nameB s = false) := nameB_no hlt (by simpa using hL)
          have hc := letB_false hL
          clear hall hL
          rcases hc with hlo | ⟨hlo, hhi⟩
          all_goals
            go_wp2
            go_ret
            exact ⟨ret_bool HN.out.symm, rfl⟩
      · go_wp2
        go_ret
        exact ⟨ret_bool (nameB_yes h1 h8 fun j hj => hall.out j hj (by omega)).symm, rfl⟩
theorem isName_is (s : ByteArray) (b : Bool) (h : nameB s = b) (hs : s.size ≤ maxLen) (w : World) :
    Calls Try.prog 61 #[.string s] w fun e w' => e = .returned (.bool b) ∧ w' = w := by
  subst h; exact isName_any s w hs
theorem isText_is (s : ByteArray) (b : Bool) (h : textB s = b) (hs : s.size ≤ maxLen) (w : World) :
    Calls Try.prog 63 #[.string s] w fun e w' => e = .returned (.bool b) ∧ w' = w := by
  subst h; exact isText_any s w hs
def depthB (a d : Int) : Bool := decide (1 ≤ d) && decide (d ≤ a + 1) && decide (d < 12)
theorem depthB_1 {a d : Int} (h : d < 1) : depthB a d = false := by unfold depthB; rw [decide_eq_false (by omega)]; rfl
theorem depthB_2 {a d : Int} (h : a + 1 < d) : depthB a d = false := by unfold depthB; rw [decide_eq_false (p := d ≤ a + 1) (by omega)]; simp
theorem depthB_3 {a d : Int} (h : 12 ≤ d) : depthB a d = false := by unfold depthB; rw [decide_eq_false (p := d < 12) (by omega)]; simp
theorem depthB_4 {a d : Int} (h1 : 1 ≤ d) (h2 : d ≤ a + 1) (h3 : d < 12) : depthB a d = true := by unfold depthB; rw [decide_eq_true h1, decide_eq_true h2, decide_eq_true h3]; rfl
set_option maxHeartbeats 400000 in
theorem depthFits_any (a d : Int) (w : World) (h0 : 0 ≤ a) (h1 : a ≤ 11) :
    Calls Try.prog 43 #[.int .i64 a, .int .i64 d] w fun e w' => e = .returned (.bool (depthB a d)) ∧ w' = w := by
  by_cases g1 : 1 ≤ d
  · by_cases g2 : d ≤ a + 1
    · by_cases g3 : d < 12
      · go_enter Try.func43, Try.ntmps43
        go_wp2
        go_ret
        exact ⟨ret_bool (depthB_4 g1 g2 g3).symm, rfl⟩
      · have HN : Hid (depthB a d = false) := depthB_3 (by omega)
        go_enter Try.func43, Try.ntmps43
        go_wp2
        go_ret
        exact ⟨ret_bool HN.out.symm, rfl⟩
    · have HN : Hid (depthB a d = false) := depthB_2 (by omega)
      go_enter Try.func43, Try.ntmps43
      go_wp2
      go_ret
      exact ⟨ret_bool HN.out.symm, rfl⟩
  · have HN : Hid (depthB a d = false) := depthB_1 (by omega)
    go_enter Try.func43, Try.ntmps43
    go_wp2
    go_ret
    exact ⟨ret_bool HN.out.symm, rfl⟩
end Go.Proofs.Ytobgcaemnpkbmaa
