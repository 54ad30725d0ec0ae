/-
  What 'attrs' makes: a list that is lent, three more behind it.
-/
import Derived.Test.YtobgcaemnpkbmaaMem
namespace Go.Proofs.Ytobgcaemnpkbmaa
open Go.RowKit

theorem attrInfo : (Try.prog.info? 58).map (fun i => (i.zero, i.size, i.bytes)) = some (some (.agg #[.string ⟨#[]⟩, .string ⟨#[]⟩]), 2, 32) := by kernel_rfl
theorem attrSize : (Try.prog.info? 58).map (·.size) = some 2 := by kernel_rfl

/-- The text that stands behind. -/
def spareS : ByteArray := ⟨#[115, 112, 97, 114, 101]⟩
/-- The cells of n attributes. -/
def attrCell (nm vl : Nat → ByteArray) (j : Nat) : Value := if j % 2 = 0 then .string (nm (j / 2)) else .string (vl (j / 2))
/-- The cells of a list that is lent. -/
def attrRow (n : Nat) (nm vl : Nat → ByteArray) (j : Nat) : Value := attrCell (fun i => if i < n then nm i else spareS) (fun i => if i < n then vl i else ⟨#[]⟩) j

theorem attrCell_even (nm vl : Nat → ByteArray) (i : Nat) : attrCell nm vl (i * 2) = .string (nm i) := by
  unfold attrCell; rw [if_pos (by omega)]; congr 2; omega
theorem attrCell_odd (nm vl : Nat → ByteArray) (i : Nat) : attrCell nm vl (i * 2 + 1) = .string (vl i) := by
  unfold attrCell; rw [if_neg (by omega)]; congr 2; omega
theorem attrCell_one (nm vl : Nat → ByteArray) (j : Nat) : (attrCell nm vl j).oneCell' = true := by
  unfold attrCell; split <;> rfl
theorem two_cases (j : Nat) : ∃ i, j = i * 2 ∨ j = i * 2 + 1 := ⟨j / 2, by omega⟩
theorem addr_add (b o j : Nat) : (⟨b, o, none⟩ : Addr).add j = ⟨b, o + j, none⟩ := by
  unfold Addr.add; split
  · next h => subst h; rfl
  · rfl

theorem attrs_src {w : World} {ao : Option Addr} {n : Nat} {nm vl : Nat → ByteArray} (h : AttrsAt w ao n nm vl) (h0 : 0 < n) : ∃ ad, ao = some ad ∧ ∀ j, j < n * 2 → w.cell? (ad.add j) = some (attrCell nm vl j) := by
  obtain ⟨b, o, e, _⟩ := h 0 h0
  refine ⟨⟨b, o, none⟩, e, fun j hj => ?_⟩
  rw [addr_add]
  obtain ⟨i, hi | hi⟩ := two_cases j
  · obtain ⟨b', o', e', _, c0, _⟩ := h i (by omega)
    rw [e] at e'; cases e'
    rw [hi, attrCell_even]; exact c0
  · obtain ⟨b', o', e', _, _, c1, _⟩ := h i (by omega)
    rw [e] at e'; cases e'
    rw [hi, attrCell_odd]; exact c1

theorem attrRow_start {n j : Nat} {nm vl : Nat → ByteArray} {f : Nat → Value} : (if j < n * 2 then attrCell nm vl j else f j) = if j < n * 2 then attrRow n nm vl j else f j := by
  by_cases h : j < n * 2
  · rw [if_pos h, if_pos h]
    unfold attrRow attrCell
    have : j / 2 < n := by omega
    simp [this]
  · rw [if_neg h, if_neg h]
theorem attrRow_step {n k j : Nat} {nm vl : Nat → ByteArray} {f : Nat → Value} (hk : n ≤ k) :
    (if j = k * 2 + 1 then .string ⟨#[]⟩ else if j = k * 2 then .string ⟨#[115, 112, 97, 114, 101]⟩ else if j < k * 2 then attrRow n nm vl j else f j) = if j < (k + 1) * 2 then attrRow n nm vl j else f j := by
  by_cases h1 : j = k * 2 + 1
  · rw [if_pos h1, if_pos (by omega), h1]
    unfold attrRow; rw [attrCell_odd, if_neg (by omega)]
  · rw [if_neg h1]
    by_cases h2 : j = k * 2
    · rw [if_pos h2, if_pos (by omega), h2]
      unfold attrRow; rw [attrCell_even, if_neg (by omega)]; rfl
    · rw [if_neg h2]
      by_cases h3 : j < k * 2
      · rw [if_pos h3, if_pos (by omega)]
      · rw [if_neg h3, if_neg (by omega)]

set_option maxRecDepth 100000 in
set_option maxHeartbeats 400000 in
theorem attrs_any (ao : Option Addr) (n c : Nat) (nm vl : Nat → ByteArray) (w : World) (hn : n * 32 ≤ 140737488351232) (hA : AttrsAt w ao n nm vl) :
    Calls Try.prog 24 #[.slice ao n c] w fun e w' => e = .returned (.slice (some ⟨w.heap.size, 0, none⟩) (n + 3) (n + 3)) ∧ Below w.heap.size w w' ∧ w'.rowIs w.heap.size 58 ((n + 3) * 2) (attrRow n nm vl) := by
  obtain ⟨i0, hi, hz0, hz1, hz2⟩ := info_parts attrInfo
  have HA := hide hA
  clear hA
  go_enter Try.func24, Try.ntmps24
  go_wp2_with (first | (refine wpList_make_rows rfl (.tmp 7) (.tmp 7) 26 rfl 58 i0 _ 2 32 Try.underlying26 hi hz0 hz1 hz2 .i64 .i64 _ (n + 3) rfl rfl (by omega) (by omega) (by omega) ?_; intro w1 f1 hr1 hs1 hb1) | (refine wpList_copy_rows rfl (.tmp 9) (.tmp 10) 26 26 rfl 58 Try.underlying26 2 attrSize w.heap.size (n + 3) (n + 3) ao n c rfl rfl (by omega) 58 ((n + 3) * 2) f1 (unhide hr1) (attrCell nm vl) (attrs_src ((unhide HA).below hb1)) (by omega) (fun j _ => attrCell_one _ _ j) w.heap.size w hb1 (Nat.le_refl _) ?_; intro w2 hr2 hs2 hb2))
  go_loopw [4] (fun i wr => ∃ k : Nat, n ≤ k ∧ k ≤ n + 3 ∧ i = .int .i64 k ∧ Hid (wr.rowIs w.heap.size 58 ((n + 3) * 2) (fun j => if j < k * 2 then attrRow n nm vl j else f1 j)) ∧ Below w.heap.size w wr) (fun i _ => n + 3 - (intOf i).toNat)
  case atStart => exact ⟨n, Nat.le_refl _, by omega, rfl, hide (hr2.out.congr fun j _ => attrRow_start), hb2⟩
  case round =>
    obtain ⟨k, hk1, hk2, rfl, hr, hbel⟩ := hrel
    by_cases hlt : k < n + 3
    · obtain ⟨u0, hu0⟩ : ∃ u, wr.cell? ⟨w.heap.size, k * 2, none⟩ = some u := ⟨_, hr.out.cell (by omega)⟩
      obtain ⟨u1, hu1⟩ : ∃ u, wr.cell? ⟨w.heap.size, k * 2 + 1, none⟩ = some u := ⟨_, hr.out.cell (by omega)⟩
      have f0 := hr.out.frozen (k * 2)
      have f1' := hr.out.frozen (k * 2 + 1)
      go_wp2
      go_roundw
      case rel => exact ⟨k + 1, by omega, by omega, by go_num, hide (((hr.out.set _ _).set _ _).congr fun j _ => attrRow_step hk1), (hbel.setCell (Nat.le_refl _) _).setCell (Nat.le_refl _) _⟩
      case measure => simp [intOf]; omega
    · go_wp2
      go_ret
      refine ⟨rfl, hbel, hr.out.congr fun j hj => ?_⟩
      rw [if_pos (by omega)]

end Go.Proofs.Ytobgcaemnpkbmaa
