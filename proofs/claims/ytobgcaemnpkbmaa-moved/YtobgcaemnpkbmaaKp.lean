/-
  For any raw numbers the law Moved returns true and leaves its arguments as they were: a Diff between two trees of keyed children tells just a Create and an Insert for each child that comes, a Remove for each that goes, an Insert for each that moves, and what stays keeps its number; one child moved is one patch, and none where it is moved to its own place. No conditions beyond those of the row itself.
-/
import Derived.Test.YtobgcaemnpkbmaaMd47
import Derived.Test.YtobgcaemnpkbmaaMd48
import Derived.Test.YtobgcaemnpkbmaaRows
import Derived.Carry
namespace Go.Proofs.Ytobgcaemnpkbmaa
open Go.ChangeShapes Go.WideShapes Go.ChangeAt Go.RowKit Go.Deep
theorem ownM : ownKnob Try.prog.godebug = none := by kernel_rfl
theorem laidOutM : laidOutB Try.prog = true := by kernel_rfl
section
variable {H : Type} {enc : TypeId × Value → H} {W : World} {base : Nat} {held : Bool} {fuel : Nat}
set_option maxRecDepth 100000 in
theorem read_intsK {v : Value} {x : DataW H × List MemPlace} (h : DataW.trod enc Try.prog W base (fun _ => true) held fuel 44 [v] = some x) :
    ∃ (ao : Option Addr) (n c : Nat) (l : Nat → Int), v = .slice ao n c ∧ IntsIn W ao n l ∧ n ≤ maxLen := by
  rcases open_slice Try.underlying44 h with ⟨hcs, _⟩ | ⟨a, len, cap, m, k, D, Pl, hcs, _, hl, hm, hmm, hx, hcell⟩
  · simp at hcs
    exact ⟨none, 0, 0, fun _ => 0, hcs, fun h => absurd h (Nat.lt_irrefl _), Nat.zero_le _⟩
  · simp at hcs
    simp only [if_true] at hmm
    subst hmm
    have hsp : 0 < len → a.spot = none := fun h0 => by
      obtain ⟨cs', h1, h2⟩ := hcell 0 (by omega)
      rw [cellsIntK] at h1
      obtain ⟨_, hlen, hc⟩ := World.cells?_some h1
      have e0 := hc 0 (by omega)
      rw [List.getElem?_eq_getElem (by omega)] at e0
      simpa [Addr.add] using World.cell?_spot e0
    obtain ⟨L, hL⟩ := choose_lt (α := Int) (n := len) (p := fun i q => W.cell? ⟨a.block, a.off + i, none⟩ = some (.int .i64 q) ∧ I64 q) (fun i hi => by
      obtain ⟨cs', h1, h2⟩ := hcell i (by omega)
      rw [cellsIntK, addr_plainK (hsp (by omega)), Nat.mul_one] at h1
      obtain ⟨_, hlen, hc⟩ := World.cells?_some h1
      obtain ⟨n, e, _, hw⟩ := DataW.trod_int Try.underlying3 h2
      have e0 := hc 0 (by omega)
      rw [addr_add, e] at e0
      exact ⟨n, e0, wf_i64K hw⟩)
    refine ⟨some a, len, m, L, hcs, fun h0 => ⟨a.block, a.off, ?_, ?_, fun i hi => hL i hi⟩, by omega⟩
    · have := hsp h0
      obtain ⟨b, o, s⟩ := a
      cases this
      rfl
    · exact World.block_lt_of_cell? W ⟨a.block, a.off + 0, none⟩ (hL 0 h0).1
end
set_option maxHeartbeats 1000000 in
set_option maxRecDepth 100000 in
theorem moved_lifted (os : Os) (started : os.Started) (H : Type) (enc : TypeId × Value → H) :
    ReturnsInHanded {} Try.checked os 6 .any (Rows.movedSpec.pre6 enc Try.prog Try.f6 Rows.movedRow.domain false) (Rows.movedSpec.post enc Try.prog Try.f6 false true false false) := by
  refine returnsInHanded_of_change_sized (C := Try.checked) ownM started (by kernel_rfl) Try.func6
    (ChangeSpec.witness6 (enc := enc) (C := Try.checked) false ⟨#[], #[.slice none 0 0, .slice none 0 0, .int .i64 0, .int .i64 0], []⟩ 8 (by kernel_rfl) (by kernel_rfl) (by kernel_rfl) (by kernel_rfl)) ?_
  intro W base args ds gs before hval0 hW _ _ _
  have hval : ∀ (j : Nat) t v, Try.f6.params[j]? = some t → args[j]? = some v → Value.okWide Try.prog W .any base t v := hval0
  have hW' := hW
  obtain ⟨p, q, hA0, hV, rfl, hfz, _⟩ := hW
  have hA : DataW.TrodAll enc Try.prog W 0 (fun _ => true) true Try.f6.params.toList args.toList ds p := hA0
  rw [Try.params6] at hA hval
  obtain ⟨v0, v1, v2, v3, d0, d1, d2, d3, p0, p1, p2, p3, rfl, rfl, rfl, h0, h1, h2, h3⟩ := trodAll_four hA
  obtain ⟨rfl, rfl⟩ := trodVars_none hV
  obtain ⟨a0, len, cap, rfl⟩ := okWide_slice Try.underlying44 (hval 0 44 v0 rfl rfl)
  obtain ⟨a1, len1, cap1, rfl⟩ := okWide_slice Try.underlying44 (hval 1 44 v1 rfl rfl)
  obtain ⟨fr, rfl⟩ := okWide_int Try.underlying3 (hval 2 3 v2 rfl rfl)
  obtain ⟨to, rfl⟩ := okWide_int Try.underlying3 (hval 3 3 v3 rfl rfl)
  have h0k := h0
  have h1k := h1
  have h2k := h2
  have h3k := h3
  obtain ⟨fuel, hf⟩ := h0
  obtain ⟨fuel1, hf1⟩ := h1
  obtain ⟨fuel2, hf2⟩ := h2
  obtain ⟨fuel3, hf3⟩ := h3
  clear hA0 hval0 hA
  simp only [List.append_nil, List.append_assoc] at hW' hfz
  have hlt : ∀ x ∈ p0 ++ (p1 ++ (p2 ++ p3)), x.block < W.heap.size := fun x hx => hW'.lt x (by simpa using hx)
  obtain ⟨ao, n, c, l, ev0, hl, hn⟩ := read_intsK (v := .slice a0 len cap) (x := (d0, p0)) hf
  obtain ⟨bo, m, c', l', ev1, hm, hn'⟩ := read_intsK (v := .slice a1 len1 cap1) (x := (d1, p1)) hf1
  cases ev0
  cases ev1
  obtain ⟨fr', e2, _, w2⟩ := DataW.trod_int Try.underlying3 hf2
  obtain ⟨to', e3, _, w3⟩ := DataW.trod_int Try.underlying3 hf3
  cases e2
  cases e3
  refine (moved_any a0 len cap l a1 len1 cap1 l' fr to W (by unfold maxLen at hn; omega) (by unfold maxLen at hn'; omega) hl hm (wf_i64K w2) (wf_i64K w3)).mono fun e W' ⟨he, hb⟩ => ?_
  subst he
  have ARG0 : DataW.Trod enc Try.prog W' 0 (fun x => decide (x < W.heap.size)) true 44 (.slice a0 len cap) d0 p0 :=
    Below.trod laidOutM (by kernel_rfl) (of_decide_eq_true (by kernel_rfl)) h0k hb (fun x hx => hlt x (by simp [hx]))
  have ARG1 : DataW.Trod enc Try.prog W' 0 (fun x => decide (x < W.heap.size)) true 44 (.slice a1 len1 cap1) d1 p1 :=
    Below.trod laidOutM (by kernel_rfl) (of_decide_eq_true (by kernel_rfl)) h1k hb (fun x hx => hlt x (by simp [hx]))
  have ARG2 : DataW.Trod enc Try.prog W' 0 (fun x => decide (x < W.heap.size)) true 3 (.int .i64 fr) d2 p2 :=
    Below.trod laidOutM (by kernel_rfl) (of_decide_eq_true (by kernel_rfl)) h2k hb (fun x hx => hlt x (by simp [hx]))
  have ARG3 : DataW.Trod enc Try.prog W' 0 (fun x => decide (x < W.heap.size)) true 3 (.int .i64 to) d3 p3 :=
    Below.trod laidOutM (by kernel_rfl) (of_decide_eq_true (by kernel_rfl)) h3k hb (fun x hx => hlt x (by simp [hx]))
  refine ⟨_, rfl, _, _, _, [], p0 ++ (p1 ++ (p2 ++ p3)), [], hW', ?_, ?_, rfl, hb.frame _, fun h => by cases h⟩
  · exact trodAll_mk1 (shut_bool Try.underlying4 true)
  · exact trodAll_mk4 ARG0 ARG1 ARG2 ARG3
theorem moved_holds : Rows.MovedSaid :=
  OpenClaim.holds_of_wide 6 Try.f6 rfl rfl rfl rfl rfl rfl rfl ⟨rfl, rfl, rfl, rfl, rfl⟩ rfl rfl rfl rfl rfl (by kernel_rfl) Try.func6 (by kernel_rfl)
    (of_decide_eq_true (by kernel_rfl)) (by unfold Func.isWrapper; rw [if_neg (of_decide_eq_false (by kernel_rfl))]; exact ⟨rfl, rfl⟩)
    (fun os started H enc _ => moved_lifted os started H enc)
#print axioms moved_holds
end Go.Proofs.Ytobgcaemnpkbmaa
