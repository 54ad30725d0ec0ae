/- Pure -/
import Derived.WalkKit
import Derived.Deep.Draws
namespace Go.Proofs.Ytobgcaemnpkbmaa
open Go.RowKit
theorem hide {p : Prop} (h : p) : Hid p := h
theorem unhide {p : Prop} (h : Hid p) : p := h
theorem drewN_of {B : Nat} {a w : World} (h : Below B a w) (n : Nat) : Below B a (w.drewN n) := h.trans ⟨rfl, rfl, rfl, Nat.le_refl _, fun _ _ => rfl⟩
def letB (c : UInt8) : Bool := decide (97 ≤ c.toNat) && decide (c.toNat ≤ 122)
def nameB (s : ByteArray) : Bool := decide (1 ≤ s.size) && decide (s.size ≤ 8) && s.data.toList.all letB
def textB (s : ByteArray) : Bool := decide (s.size ≤ 20)
theorem nameB_short {s : ByteArray} (h : s.size < 1) : nameB s = false := by
  unfold nameB; rw [decide_eq_false (by omega)]; rfl
theorem nameB_long {s : ByteArray} (h : 8 < s.size) : nameB s = false := by
  unfold nameB; rw [decide_eq_false (p := s.size ≤ 8) (by omega)]; simp
theorem nameB_no {s : ByteArray} {k : Nat} (hk : k < s.size) (h : letB s[k] = false) : nameB s = false := by
  have h2 : s.data.toList.all letB = false := by
    apply Bool.eq_false_iff.2
    intro h3
    have := List.all_eq_true.1 h3 s[k] (by
      have e : s[k] = s.data.toList[k]'(by simpa using hk) := rfl
      rw [e]; exact List.getElem_mem _)
    rw [h] at this; cases this
  unfold nameB; rw [h2]; simp
theorem nameB_yes {s : ByteArray} (h1 : 1 ≤ s.size) (h8 : s.size ≤ 8) (h : ∀ k, (hk : k < s.size) → letB s[k] = true) : nameB s = true := by
  have h2 : s.data.toList.all letB = true := by
    apply List.all_eq_true.2
    intro x hx
    obtain ⟨k, hk, e⟩ := List.getElem_of_mem hx
    have hk' : k < s.size := by simpa using hk
    have := h k hk'
    rw [← e]; exact this
  unfold nameB; rw [h2, decide_eq_true h1, decide_eq_true h8]; rfl
theorem nameB_bad {s : ByteArray} (h1 : s.size < 1 ∨ 8 < s.size) : nameB s = false := by
  rcases h1 with h | h
  · exact nameB_short h
  · exact nameB_long h
theorem letB_in {c : UInt8} (h1 : (97 : Int) ≤ c.toNat) (h2 : (c.toNat : Int) ≤ 122) : letB c = true := by
  unfold letB; rw [decide_eq_true (by omega), decide_eq_true (by omega)]; rfl
theorem letB_true {c : UInt8} (h : letB c = true) : (97 : Int) ≤ c.toNat ∧ (c.toNat : Int) ≤ 122 := by
  unfold letB at h; simp at h; omega
theorem letB_false {c : UInt8} (h : ¬ letB c = true) : (c.toNat : Int) < 97 ∨ ((97 : Int) ≤ c.toNat ∧ (122 : Int) < c.toNat) := by
  by_cases h1 : (c.toNat : Int) < 97
  · exact .inl h1
  · refine .inr ⟨by omega, ?_⟩
    by_cases h2 : (122 : Int) < c.toNat
    · exact h2
    · exact absurd (letB_in (by omega) (by omega)) h
theorem all_step {s : ByteArray} {k : Nat} (hk : k < s.size) (h : ∀ j, (hj : j < s.size) → j < k → letB s[j] = true) (hl : letB s[k] = true) : ∀ j, (hj : j < s.size) → j < k + 1 → letB s[j] = true := by
  intro j hj hlt
  by_cases e : j = k
  · subst e; exact hl
  · exact h j hj (by omega)
theorem ret_bool {a b : Bool} (h : a = b) : Ending.returned (.bool a) = .returned (.bool b) := by rw [h]
def attrB (nm vl : Nat → ByteArray) (j : Nat) : Bool := nameB (nm j) && textB (vl j) && (decide (j = 0) || Op.bytesLess (nm (j - 1)).toList (nm j).toList)
def attrsB (n : Nat) (nm vl : Nat → ByteArray) : Bool := decide (n ≤ 5) && (List.range n).all (attrB nm vl)
theorem attrsB_long {n : Nat} {nm vl : Nat → ByteArray} (h : 5 < n) : attrsB n nm vl = false := by
  unfold attrsB; rw [decide_eq_false (by omega)]; rfl
theorem attrsB_no {n k : Nat} {nm vl : Nat → ByteArray} (hk : k < n) (h : attrB nm vl k = false) : attrsB n nm vl = false := by
  have : (List.range n).all (attrB nm vl) = false := by
    apply Bool.eq_false_iff.2
    intro h3
    have := List.all_eq_true.1 h3 k (List.mem_range.2 hk)
    rw [h] at this; cases this
  unfold attrsB; rw [this]; simp
theorem attrsB_yes {n : Nat} {nm vl : Nat → ByteArray} (h5 : n ≤ 5) (h : ∀ j, j < n → attrB nm vl j = true) : attrsB n nm vl = true := by
  have : (List.range n).all (attrB nm vl) = true := List.all_eq_true.2 fun j hj => h j (List.mem_range.1 hj)
  unfold attrsB; rw [this, decide_eq_true h5]; rfl
theorem attrB_name {nm vl : Nat → ByteArray} {j : Nat} (h : nameB (nm j) = false) : attrB nm vl j = false := by unfold attrB; rw [h]; rfl
theorem attrB_text {nm vl : Nat → ByteArray} {j : Nat} (h : textB (vl j) = false) : attrB nm vl j = false := by unfold attrB; rw [h]; simp
theorem attrB_less {nm vl : Nat → ByteArray} {j : Nat} (h0 : 0 < j) (h : Op.bytesLess (nm (j - 1)).toList (nm j).toList = false) : attrB nm vl j = false := by
  unfold attrB; rw [h, decide_eq_false (by omega)]; simp
theorem attrB_first {nm vl : Nat → ByteArray} (h1 : nameB (nm 0) = true) (h2 : textB (vl 0) = true) : attrB nm vl 0 = true := by unfold attrB; rw [h1, h2]; rfl
theorem attrB_next {nm vl : Nat → ByteArray} {j : Nat} (h1 : nameB (nm j) = true) (h2 : textB (vl j) = true) (h : Op.bytesLess (nm (j - 1)).toList (nm j).toList = true) : attrB nm vl j = true := by
  unfold attrB; rw [h1, h2, h]; simp
theorem upto_step {p : Nat → Bool} {k : Nat} (h : ∀ j, j < k → p j = true) (hl : p k = true) : ∀ j, j < k + 1 → p j = true := by
  intro j hlt
  by_cases e : j = k
  · subst e; exact hl
  · exact h j (by omega)
end Go.Proofs.Ytobgcaemnpkbmaa
