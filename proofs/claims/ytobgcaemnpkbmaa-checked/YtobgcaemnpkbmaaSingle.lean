/-
  What the reference's 'single' and 'Parent' answer.
-/
import Derived.Test.YtobgcaemnpkbmaaChk
namespace Go.Proofs.Ytobgcaemnpkbmaa
open Go.RowKit

/-- May a node be, wherever it stands? -/
def oneB (n : Nod) : Bool := elB n || txB n

theorem name_nonempty {s : ByteArray} (h : s.toList.isEmpty = true) : nameB s = false := by
  apply nameB_short
  have h2 : s.toList = [] := by simpa using h
  have h3 : s.toList.length = s.size := by rw [ByteArray.toList_eq, Array.length_toList]; rfl
  rw [h2] at h3
  simp at h3
  omega
theorem oneB_text {n : Nod} (h : n.t.toList.isEmpty = true) : oneB n = (decide (n.k = 0) && decide (n.an = 0) && textB n.x) := by
  unfold oneB elB txB; rw [name_nonempty h, h]; simp
theorem oneB_elem {n : Nod} (h : n.t.toList.isEmpty = false) : oneB n = (nameB n.t && n.x.toList.isEmpty && decide (0 ≤ n.k) && attrsB n.an n.nm n.vl) := by
  unfold oneB elB txB; rw [h]; simp

set_option maxHeartbeats 400000 in
theorem single_text (n : Nod) (w : World) (h : n.Ok w) (hE : n.t.toList.isEmpty = true) :
    Calls Try.prog 25 #[n.val] w fun e w' => e = .returned (.bool (oneB n)) ∧ Below w.heap.size w w' := by
  have fin : ∀ O, Below w.heap.size w (w.alloc O) := fun O => (Below.refl _ _).alloc (Nat.le_refl _) O
  have HX := hide (oneB_text hE)
  obtain ⟨h1, h2, h3, _⟩ := h
  unfold maxLen at h3
  unfold Nod.val
  by_cases hK : n.k = 0
  · have kb : (n.k == 0) = true := by simp [hK]
    by_cases hZ : n.an = 0
    · have zb : ((n.an : Int) == 0) = true := by simp [hZ]
      have HY := hide (show oneB n = textB n.x by rw [HX.out, decide_eq_true hK, decide_eq_true hZ]; rfl)
      clear hK hZ
      go_enter Try.func25, Try.ntmps25
      go_wp2
      go_ret
      exact ⟨ret_bool (by rw [HY.out]; unfold textB; simp; omega), fin _⟩
    · have zb : ((n.an : Int) == 0) = false := by simp; omega
      have HY := hide (show oneB n = false by rw [HX.out, decide_eq_false hZ]; simp)
      clear hK hZ
      go_enter Try.func25, Try.ntmps25
      go_wp2
      go_ret
      exact ⟨ret_bool HY.out.symm, fin _⟩
  · have kb : (n.k == 0) = false := by simp [hK]
    have HY := hide (show oneB n = false by rw [HX.out, decide_eq_false hK]; simp)
    clear hK
    go_enter Try.func25, Try.ntmps25
    go_wp2
    go_ret
    exact ⟨ret_bool HY.out.symm, fin _⟩

set_option maxHeartbeats 400000 in
theorem single_bad (n : Nod) (w : World) (h : n.Ok w) (hE : n.t.toList.isEmpty = false) (hB : nameB n.t = false ∨ n.k < 0 ∨ n.x.toList.isEmpty = false ∨ 5 < n.an) :
    Calls Try.prog 25 #[n.val] w fun e w' => e = .returned (.bool false) ∧ Below w.heap.size w w' := by
  have fin : ∀ O, Below w.heap.size w (w.alloc O) := fun O => (Below.refl _ _).alloc (Nat.le_refl _) O
  obtain ⟨h1, h2, h3, _⟩ := h
  unfold maxLen at h1
  unfold Nod.val
  cases hN : nameB n.t with
  | false =>
    have HN := hide hN
    clear hN hB
    go_enter Try.func25, Try.ntmps25
    go_wp2_with (go_at_call 34; refine (name_is _ false (unhide HN) h2 _).mono ?_; rintro e w' ⟨rfl, rfl⟩)
    go_ret
    exact ⟨rfl, fin _⟩
  | true =>
    have HN := hide hN
    rw [hN] at hB
    have hB : n.k < 0 ∨ n.x.toList.isEmpty = false ∨ 5 < n.an := by rcases hB with h | h; exact absurd h (by simp); exact h
    clear hN
    by_cases hK : n.k < 0
    · clear hB
      go_enter Try.func25, Try.ntmps25
      go_wp2_with (go_at_call 34; refine (name_is _ true (unhide HN) h2 _).mono ?_; rintro e w' ⟨rfl, rfl⟩)
      go_ret
      exact ⟨rfl, fin _⟩
    · have hK' : 0 ≤ n.k := by omega
      cases hX : n.x.toList.isEmpty with
      | false =>
        clear hB hK
        go_enter Try.func25, Try.ntmps25
        go_wp2_with (go_at_call 34; refine (name_is _ true (unhide HN) h2 _).mono ?_; rintro e w' ⟨rfl, rfl⟩)
        go_ret
        exact ⟨rfl, fin _⟩
      | true =>
        have h5 : 5 < n.an := by rcases hB with h | h | h; exact absurd h hK; rw [hX] at h; cases h; exact h
        clear hB hK
        go_enter Try.func25, Try.ntmps25
        go_wp2_with (go_at_call 34; refine (name_is _ true (unhide HN) h2 _).mono ?_; rintro e w' ⟨rfl, rfl⟩)
        go_ret
        exact ⟨rfl, fin _⟩

end Go.Proofs.Ytobgcaemnpkbmaa
