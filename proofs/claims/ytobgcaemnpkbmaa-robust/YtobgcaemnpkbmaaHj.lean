/-
  For every list of nodes and every list of patches the law Robust returns true and leaves its arguments as they were: what Apply tells to be done is done and the rest is not, one by one the patches do the same as all together up to the one that can not be done, and the document stays one: as many nodes are told as numbers, the root's first, none twice. No conditions beyond those of the row itself.
-/
import Derived.Test.YtobgcaemnpkbmaaKb43
import Derived.Test.YtobgcaemnpkbmaaKb44
import Derived.Test.YtobgcaemnpkbmaaRows
import Derived.Carry
namespace Go.Proofs.Ytobgcaemnpkbmaa
open Go.ChangeShapes Go.WideShapes Go.ChangeAt Go.RowKit Go.Deep
theorem robust_any (ao : Option Addr) (n c : Nat) (L : Nat → Nod) (po : Option Addr) (m pc : Nat) (X : Nat → Pat) (w : World) (hn : n ≤ maxLen) (hL : ListAt w ao n L) (hm : m ≤ 2199023255552) (hX : PListAt w po m X) (hx : ∀ i, i < m → (X i).Ok ∧ (X i).Ints) :
    Calls Try.prog 4 #[.slice ao n c, .slice po m pc] w fun e w' => e = .returned (.bool true) ∧ Below w.heap.size w w' := by
  by_cases hz : (checkOut (mayB L) n).1 = 0
  · obtain ⟨b, o, rfl, _⟩ := hL (check_none hz).2.1
    obtain ⟨k, hk, hr, hs⟩ := runs_stop (madeR L n) n X m
    by_cases hkm : k = m
    · subst hkm
      exact robust_full b o n c L po k pc X w hn hL hz hm hX hx hr
    · exact robust_stop b o n c L po m pc X w hn hL hz hm hX hx k (by omega) hr (hs.resolve_left hkm)
  · exact robust_bad ao n c L po m pc w hn hL hz
theorem ownR : ownKnob Try.prog.godebug = none := by kernel_rfl
theorem laidOutR : laidOutB Try.prog = true := by kernel_rfl
theorem bytesPatch : Try.prog.bytesOf 43 = 88 := by kernel_rfl
set_option maxHeartbeats 1000000 in
set_option maxRecDepth 100000 in
theorem robust_lifted (os : Os) (started : os.Started) (H : Type) (enc : TypeId × Value → H) :
    ReturnsInHanded {} Try.checked os 4 .any (Rows.robustSpec.pre6 enc Try.prog Try.f4 Rows.robustRow.domain false) (Rows.robustSpec.post enc Try.prog Try.f4 false true false false) := by
  refine returnsInHanded_of_change_sized (C := Try.checked) ownR started (by kernel_rfl) Try.func4
    (ChangeSpec.witness6 (enc := enc) (C := Try.checked) false ⟨#[], #[.slice none 0 0, .slice none 0 0], []⟩ 8 (by kernel_rfl) (by kernel_rfl) (by kernel_rfl) (by kernel_rfl)) ?_
  intro W base args ds gs before hval0 hW _ hsz0 _
  have hsz : (DataW.weightsEach Try.prog (Try.f4.params.toList ++ Rows.robustSpec.plain.varTypes Try.prog) (ds ++ gs)).all (· ≤ reachBytes) = true := hsz0
  clear hsz0
  have hval : ∀ (j : Nat) t v, Try.f4.params[j]? = some t → args[j]? = some v → Value.okWide Try.prog W .any base t v := hval0
  have hW' := hW
  obtain ⟨p, q, hA0, hV, rfl, hfz, _⟩ := hW
  have hA : DataW.TrodAll enc Try.prog W 0 (fun _ => true) true Try.f4.params.toList args.toList ds p := hA0
  rw [Try.params4] at hA hval hsz
  obtain ⟨v0, v1, d0, d1, p0, p1, rfl, rfl, rfl, h0, h1⟩ := trodAll_two hA
  obtain ⟨rfl, rfl⟩ := trodVars_none hV
  obtain ⟨a0, len, cap, rfl⟩ := okWide_slice Try.underlying22 (hval 0 22 v0 rfl rfl)
  obtain ⟨a1, len1, cap1, rfl⟩ := okWide_slice Try.underlying36 (hval 1 36 v1 rfl rfl)
  have h0k := h0
  have h1k := h1
  obtain ⟨fuel, hf⟩ := h0
  obtain ⟨fuel1, hf1⟩ := h1
  clear hA0 hval0 hA
  simp only [List.append_nil] at hW' hfz hsz
  have hlt : ∀ x ∈ p0 ++ p1, x.block < W.heap.size := fun x hx => hW'.lt x (by simpa using hx)
  obtain ⟨ao, n, c, L, ev0, hL, hn, _, _⟩ := read_listK (v := .slice a0 len cap) (x := (d0, p0)) hf
  obtain ⟨po, m, pc, X, ev1, hX, hx, hes⟩ := read_patsK (v := .slice a1 len1 cap1) (x := (d1, p1)) hf1
  cases ev0
  cases ev1
  have hm : len1 ≤ 2199023255552 := by
    by_cases h0 : 0 < len1
    · obtain ⟨es, sp, e1, e2⟩ := hes h0
      simp only at e1
      subst e1
      have hw := sized_slice hsz (j := 1) (t := 36) (e := 43) rfl rfl Try.underlying36
      have er : reachBytes = 140737488351232 := rfl
      rw [bytesPatch, er] at hw
      omega
    · omega
  refine (robust_any a0 len cap L a1 len1 cap1 X W hn hL hm hX hx).mono fun e W' ⟨he, hb⟩ => ?_
  subst he
  have ARG0 : DataW.Trod enc Try.prog W' 0 (fun x => decide (x < W.heap.size)) true 22 (.slice a0 len cap) d0 p0 :=
    Below.trod laidOutR (by kernel_rfl) (of_decide_eq_true (by kernel_rfl)) h0k hb (fun x hx => hlt x (List.mem_append_left _ hx))
  have ARG1 : DataW.Trod enc Try.prog W' 0 (fun x => decide (x < W.heap.size)) true 36 (.slice a1 len1 cap1) d1 p1 :=
    Below.trod laidOutR (by kernel_rfl) (of_decide_eq_true (by kernel_rfl)) h1k hb (fun x hx => hlt x (List.mem_append_right _ hx))
  refine ⟨_, rfl, _, _, _, [], p0 ++ p1, [], hW', ?_, ?_, rfl, hb.frame _, fun h => by cases h⟩
  · exact trodAll_mk1 (shut_bool Try.underlying4 true)
  · exact trodAll_mk2 ARG0 ARG1
theorem robust_holds : Rows.RobustSaid :=
  OpenClaim.holds_of_wide 4 Try.f4 rfl rfl rfl rfl rfl rfl rfl ⟨rfl, rfl, rfl, rfl, rfl⟩ rfl rfl rfl rfl rfl (by kernel_rfl) Try.func4 (by kernel_rfl)
    (of_decide_eq_true (by kernel_rfl)) (by unfold Func.isWrapper; rw [if_neg (of_decide_eq_false (by kernel_rfl))]; exact ⟨rfl, rfl⟩)
    (fun os started H enc _ => robust_lifted os started H enc)
#print axioms robust_holds
end Go.Proofs.Ytobgcaemnpkbmaa
