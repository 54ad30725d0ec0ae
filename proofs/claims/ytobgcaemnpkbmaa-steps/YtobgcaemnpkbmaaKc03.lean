/- Attrs -/
import Derived.Test.YtobgcaemnpkbmaaKc02
import Derived.BigQuiet
import Derived.Deep.RegionWith
namespace Go.Proofs.Ytobgcaemnpkbmaa
open Go.RowKit
def AttrsAt (w : World) (ao : Option Addr) (n : Nat) (nm vl : Nat → ByteArray) : Prop :=
  ∀ j, j < n → ∃ b o, ao = some ⟨b, o, none⟩ ∧ b < w.heap.size ∧ w.cell? ⟨b, o + j * 2, none⟩ = some (.string (nm j)) ∧ w.cell? ⟨b, o + j * 2 + 1, none⟩ = some (.string (vl j)) ∧ (nm j).size ≤ maxLen ∧ (vl j).size ≤ maxLen
set_option maxHeartbeats 400000 in
theorem areAttrs_any (ao : Option Addr) (n c : Nat) (nm vl : Nat → ByteArray) (w : World) (hn : n ≤ maxLen) (hA : AttrsAt w ao n nm vl) :
    Calls Try.prog 62 #[.slice ao n c] w fun e w' => e = .returned (.bool (attrsB n nm vl)) ∧ Below w.heap.size w w' := by
  unfold maxLen at hn
  by_cases h5 : 5 < n
  · have HB : Hid (attrsB n nm vl = false) := attrsB_long h5
    clear hA
    go_enter Try.func62, Try.ntmps62
    go_wp2
    go_ret
    exact ⟨ret_bool HB.out.symm, Below.refl _ _⟩
  have h5 : n ≤ 5 := by omega
  have HA : Hid (AttrsAt w ao n nm vl) := hA
  clear hA
  go_enter Try.func62, Try.ntmps62
  go_wp2
  go_loopw [3, 4, 10] (fun _ _ i wr => ∃ k : Nat, k ≤ n ∧ i = .int .i64 k ∧ Hid (∀ j, j < k → attrB nm vl j = true) ∧ Below w.heap.size w wr) (fun _ _ i _ => n - (intOf i).toNat)
  case atStart => exact ⟨0, Nat.zero_le _, rfl, fun j h => absurd h (Nat.not_lt_zero _), Below.refl _ _⟩
  case round =>
    obtain ⟨k, hk, rfl, hall, hbel⟩ := hrel
    by_cases hlt : k < n
    · obtain ⟨b, o, rfl, hbw, c0, c1, s0, s1⟩ := HA.out k hlt
      have d0 := (hbel.cell (p := ⟨b, o + k * 2, none⟩) hbw).trans c0
      have d1 := (hbel.cell (p := ⟨b, o + k * 2 + 1, none⟩) hbw).trans c1
      clear c0 c1
      have fin : Below w.heap.size w ((wr.alloc (.cells #[.string (nm k), .string (vl k)] 58))) := hbel.alloc hbel.size _
      by_cases hN : nameB (nm k) = true
      · by_cases hT : textB (vl k) = true
        · by_cases h0 : k = 0
          · subst h0
            simp only [Nat.zero_mul, Nat.add_zero] at d0 d1
            have HS : Hid (∀ j, j < 0 + 1 → attrB nm vl j = true) := upto_step hall.out (attrB_first hN hT)
            have HN := hide hN
            have HT := hide hT
            clear hN hT hall
            go_wp2
            go_big_quiet (first | (go_at_call 61; exact Calls.quiet_of_same (isName_is _ true (unhide HN) s0 _)) | (go_at_call 63; exact Calls.quiet_of_same (isText_is _ true (unhide HT) s1 _)))
            go_wp2
            go_roundw
            case rel => exact ⟨1, by omega, by go_num, HS, drewN_of fin _⟩
            case measure => simp [intOf]; omega
          · obtain ⟨b', o', e', _, p0, _, _, _⟩ := HA.out (k - 1) (by omega)
            cases e'
            have hk0 : 0 < k := by omega
            have q0 : ∀ O, (wr.alloc O).cell? ⟨b, o + (k - 1) * 2, none⟩ = some (.string (nm (k - 1))) := fun O =>
              (World.cell?_alloc_lt _ _ _ (Nat.lt_of_lt_of_le hbw hbel.size)).trans ((hbel.cell (p := ⟨b, o + (k - 1) * 2, none⟩) hbw).trans p0)
            clear p0
            cases hL : Op.bytesLess (nm (k - 1)).toList (nm k).toList with
            | true =>
              have HS : Hid (∀ j, j < k + 1 → attrB nm vl j = true) := upto_step hall.out (attrB_next hN hT hL)
              have HN := hide hN
              have HT := hide hT
              clear hN hT hall
              go_wp2
              go_big_quiet (first | (go_at_call 61; exact Calls.quiet_of_same (isName_is _ true (unhide HN) s0 _)) | (go_at_call 63; exact Calls.quiet_of_same (isText_is _ true (unhide HT) s1 _)))
              go_wp2
              go_roundw
              case rel => exact ⟨k + 1, by omega, by go_num, HS, drewN_of fin _⟩
              case measure => simp [intOf]; omega
            | false =>
              have HX : Hid (attrsB n nm vl = false) := attrsB_no hlt (attrB_less (by omega) hL)
              have HN := hide hN
              have HT := hide hT
              clear hN hT hall
              go_wp2
              go_big_quiet (first | (go_at_call 61; exact Calls.quiet_of_same (isName_is _ true (unhide HN) s0 _)) | (go_at_call 63; exact Calls.quiet_of_same (isText_is _ true (unhide HT) s1 _)))
              go_wp2
              go_ret
              exact ⟨ret_bool HX.out.symm, drewN_of fin _⟩
        · have HX : Hid (attrsB n nm vl = false) := attrsB_no hlt (attrB_text (by simpa using hT))
          have HN := hide hN
          have HT : Hid (textB (vl k) = false) := hide (by simpa using hT)
          clear hN hT hall
          go_wp2
          go_big_quiet (first | (go_at_call 61; exact Calls.quiet_of_same (isName_is _ true (unhide HN) s0 _)) | (go_at_call 63; exact Calls.quiet_of_same (isText_is _ false (unhide HT) s1 _)))
          go_wp2
          go_ret
          exact ⟨ret_bool HX.out.symm, drewN_of fin _⟩
      · have HX : Hid (attrsB n nm vl = false) := attrsB_no hlt (attrB_name (by simpa using hN))
        have HN : Hid (nameB (nm k) = false) := hide (by simpa using hN)
        clear hN hall
        go_wp2
        go_quiet ((go_at_call 61; exact Calls.quiet_of_same (isName_is _ false (unhide HN) s0 _)))
        go_wp2
        go_ret
        exact ⟨ret_bool HX.out.symm, drewN_of fin _⟩
    · have hkn : Hid (k = n) := show k = n by omega
      go_wp2
      go_ret
      exact ⟨ret_bool (attrsB_yes h5 fun j hj => hall.out j (by have := hkn.out; omega)).symm, hbel⟩
end Go.Proofs.Ytobgcaemnpkbmaa
