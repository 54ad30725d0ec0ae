/-
  What the reference's 'single' answers of a node with a tag whose attributes are looked at.
-/
import Derived.Test.YtobgcaemnpkbmaaSingle
namespace Go.Proofs.Ytobgcaemnpkbmaa
open Go.RowKit

theorem textB_yes {s : ByteArray} (h : textB s = true) : s.size ≤ 20 := by unfold textB at h; simpa using h
theorem textB_not {s : ByteArray} (h : textB s = false) : 20 < s.size := by unfold textB at h; simpa using h

set_option maxHeartbeats 1000000 in
theorem single_good' (d : Int) (t : ByteArray) (key : Int) (ao : Option Addr) (an ac : Nat) (x : ByteArray) (nm vl : Nat → ByteArray) (w : World) (h1 : an ≤ maxLen) (h2 : t.size ≤ maxLen) (hA : AttrsAt w ao an nm vl) (hE : t.toList.isEmpty = false) (hN : nameB t = true) (hK : 0 ≤ key) (hX : x.toList.isEmpty = true) (h5 : an ≤ 5) :
    Calls Try.prog 25 #[.agg #[.int .i64 d, .string t, .int .i64 key, .slice ao an ac, .string x]] w fun e w' => e = .returned (.bool (attrsB an nm vl)) ∧ Below w.heap.size w w' := by
  have fin : ∀ q, Below w.heap.size w ((w.alloc (.cells #[.int .i64 d, .string t, .int .i64 key, .slice ao an ac, .string x] 28)).drewN q) := fun q => drewN_of ((Below.refl _ _).alloc (Nat.le_refl _) _) q
  have HA := hide hA
  clear hA
  have HN := hide hN
  clear hN
  unfold maxLen at h1
  go_enter Try.func25, Try.ntmps25
  go_wp2_with (go_at_call 34; refine (name_is _ true (unhide HN) h2 _).mono ?_; rintro e w' ⟨rfl, rfl⟩)
  go_loopw [4, 5] (fun i _ wr => ∃ k q : Nat, k ≤ an ∧ i = .int .i64 k ∧ Hid (∀ j, j < k → attrB nm vl j = true) ∧ wr = (w.alloc (.cells #[.int .i64 d, .string t, .int .i64 key, .slice ao an ac, .string x] 28)).drewN q) (fun i _ _ => an - (intOf i).toNat)
  case atStart => exact ⟨0, 0, Nat.zero_le _, rfl, hide (fun j h => absurd h (Nat.not_lt_zero _)), rfl⟩
  case round =>
    obtain ⟨k, q, hk, rfl, hall, rfl⟩ := hrel
    by_cases hlt : k < an
    · obtain ⟨b, o, rfl, hbw, c0, c1, s0, s1⟩ := HA.out k hlt
      have hbn : b ≠ w.heap.size := by omega
      have HS1 := hide s1
      unfold maxLen at s1
      cases hN : nameB (nm k) with
      | false =>
        have HX := hide (attrsB_no hlt (attrB_name hN) : attrsB an nm vl = false)
        have HM := hide hN
        clear hN hall
        go_wp2_with (go_at_call 34; refine (name_is _ false (unhide HM) s0 _).mono ?_; rintro e w' ⟨rfl, rfl⟩)
        go_big_quiet (fail)
        go_wp2
        go_ret
        exact ⟨ret_bool HX.out.symm, drewN_of (fin _) _⟩
      | true =>
        have HM := hide hN
        cases hT : textB (vl k) with
        | false =>
          have HX := hide (attrsB_no hlt (attrB_text hT) : attrsB an nm vl = false)
          have ht := textB_not hT
          have tb : decide ((20 : Int) < ((vl k).size : Int)) = true := by simp; omega
          clear hN hall hT
          go_wp2_with (go_at_call 34; refine (name_is _ true (unhide HM) s0 _).mono ?_; rintro e w' ⟨rfl, rfl⟩)
          go_big_quiet (fail)
          go_wp2
          go_ret
          exact ⟨ret_bool HX.out.symm, drewN_of (fin _) _⟩
        | true =>
          have ht := textB_yes hT
          have tb : decide ((20 : Int) < ((vl k).size : Int)) = false := by simp; omega
          by_cases h0 : k = 0
          · subst h0
            simp only [Nat.zero_mul, Nat.add_zero] at c0 c1
            have HS := hide (upto_step hall.out (attrB_first hN hT))
            clear hN hT hall
            go_wp2_with (go_at_call 34; refine (name_is _ true (unhide HM) s0 _).mono ?_; rintro e w' ⟨rfl, rfl⟩)
            go_big_quiet (fail)
            go_wp2
            go_roundw
            case rel => exact ⟨1, _, by omega, by go_num, HS, rfl⟩
            case measure => simp [intOf]; omega
          · obtain ⟨b', o', e', _, p0, _, _, _⟩ := HA.out (k - 1) (by omega)
            cases e'
            have hk0 : 0 < k := by omega
            cases hL : Op.bytesLess (nm (k - 1)).toList (nm k).toList with
            | true =>
              have HS := hide (upto_step hall.out (attrB_next hN hT hL))
              clear hN hT hall
              go_wp2_with (go_at_call 34; refine (name_is _ true (unhide HM) s0 _).mono ?_; rintro e w' ⟨rfl, rfl⟩)
              go_big_quiet (fail)
              go_wp2
              go_roundw
              case rel => exact ⟨k + 1, _, by omega, by go_num, HS, rfl⟩
              case measure => simp [intOf]; omega
            | false =>
              have HX := hide (attrsB_no hlt (attrB_less (vl := vl) (by omega) hL))
              clear hN hT hall
              go_wp2_with (go_at_call 34; refine (name_is _ true (unhide HM) s0 _).mono ?_; rintro e w' ⟨rfl, rfl⟩)
              go_big_quiet (fail)
              go_wp2
              go_ret
              exact ⟨ret_bool HX.out.symm, drewN_of (fin _) _⟩
    · have HS := hide (attrsB_yes h5 fun j hj => hall.out j (by omega))
      go_wp2
      go_ret
      exact ⟨ret_bool HS.out.symm, fin _⟩

theorem single_good (n : Nod) (w : World) (h : n.Ok w) (hE : n.t.toList.isEmpty = false) (hN : nameB n.t = true) (hK : 0 ≤ n.k) (hX : n.x.toList.isEmpty = true) (h5 : n.an ≤ 5) :
    Calls Try.prog 25 #[n.val] w fun e w' => e = .returned (.bool (attrsB n.an n.nm n.vl)) ∧ Below w.heap.size w w' :=
  single_good' n.d n.t n.k n.ao n.an n.ac n.x n.nm n.vl w h.an h.t h.at' hE hN hK hX h5

theorem single_any (n : Nod) (w : World) (h : n.Ok w) :
    Calls Try.prog 25 #[n.val] w fun e w' => e = .returned (.bool (oneB n)) ∧ Below w.heap.size w w' := by
  cases hE : n.t.toList.isEmpty with
  | true => exact single_text n w h hE
  | false =>
    by_cases hB : nameB n.t = false ∨ n.k < 0 ∨ n.x.toList.isEmpty = false ∨ 5 < n.an
    · have e : oneB n = false := by
        rw [oneB_elem hE]
        rcases hB with h | h | h | h
        · rw [h]; rfl
        · rw [decide_eq_false (p := 0 ≤ n.k) (by omega)]; simp
        · rw [h]; simp
        · rw [attrsB_long h]; simp
      rw [e]
      exact single_bad n w h hE hB
    · have h1 : nameB n.t = true := by cases hN : nameB n.t with | true => rfl | false => exact absurd (.inl hN) hB
      have h2 : 0 ≤ n.k := by by_cases h : n.k < 0; exact absurd (.inr (.inl h)) hB; omega
      have h3 : n.x.toList.isEmpty = true := by cases hN : n.x.toList.isEmpty with | true => rfl | false => exact absurd (.inr (.inr (.inl hN))) hB
      have h4 : n.an ≤ 5 := by by_cases h : 5 < n.an; exact absurd (.inr (.inr (.inr h))) hB; omega
      have e : oneB n = attrsB n.an n.nm n.vl := by rw [oneB_elem hE, h1, h3, decide_eq_true h2]; rfl
      rw [e]
      exact single_good n w h hE h1 h2 h3 h4

end Go.Proofs.Ytobgcaemnpkbmaa
