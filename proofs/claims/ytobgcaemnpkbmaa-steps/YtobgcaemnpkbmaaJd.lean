/-
  For every list of lists of nodes the law Steps returns true and leaves its argument as it was: from any tree to any other, and on: each time the patches of a Diff can be done, the document is then the tree, nothing is loose, and to the tree that it is there is nothing to do; a list that may not be, or has another root, is refused and changes nothing. No conditions beyond those of the row itself.
-/
import Derived.Test.YtobgcaemnpkbmaaKc49
import Derived.Test.YtobgcaemnpkbmaaKc50
import Derived.Test.YtobgcaemnpkbmaaRows
import Derived.Carry
namespace Go.Proofs.Ytobgcaemnpkbmaa
open Go.ChangeShapes Go.WideShapes Go.ChangeAt Go.RowKit Go.Deep
theorem steps_any (so : Option Addr) (N c : Nat) (ao : Nat → Option Addr) (nn cc : Nat → Nat) (Ls : Nat → Nat → Nod) (w : World) (hN2 : N ≤ 8796093022208) (ht : TreesAt w so N ao nn cc Ls) :
    Calls Try.prog 5 #[.slice so N c] w fun e w' => e = .returned (.bool true) ∧ Below w.heap.size w w' := by
  by_cases h0 : N = 0
  · subst h0
    exact steps_none so c w
  · have hN : 0 < N := by omega
    obtain ⟨b, o, rfl, lb, hcell⟩ := ht.at' hN
    obtain ⟨hl, hm, hc, hk⟩ := ht.lst 0 hN
    have x0 := hcell 0 hN
    rw [Nat.add_zero] at x0
    by_cases hz : (checkOut (mayB (Ls 0)) (nn 0)).1 = 0
    · exact steps_good b o N c hN hN2 ao nn cc Ls w ht hz
    · exact steps_bad b o N c hN (ao 0) (nn 0) (cc 0) (Ls 0) w x0 hm hl hz
theorem ownS : ownKnob Try.prog.godebug = none := by kernel_rfl
theorem laidOutS : laidOutB Try.prog = true := by kernel_rfl
theorem bytesNodes : Try.prog.bytesOf 22 = 24 := by kernel_rfl
theorem cellsNodesK : Try.prog.cellsOf 22 = 1 := by kernel_rfl
section
variable {H : Type} {enc : TypeId × Value → H} {W : World} {base : Nat} {held : Bool} {fuel : Nat}
set_option maxRecDepth 100000 in
theorem read_treesK {so : Option Addr} {N c : Nat} {x : DataW H × List MemPlace} (h : DataW.trod enc Try.prog W base (fun _ => true) held fuel 49 [.slice so N c] = some x) :
    ∃ (ao : Nat → Option Addr) (nn cc : Nat → Nat) (Ls : Nat → Nat → Nod), TreesAt W so N ao nn cc Ls ∧ (0 < N → ∃ es sp, x.1 = .slice es sp ∧ es.length = N) := by
  rcases open_slice Try.underlying49 h with ⟨hcs, _⟩ | ⟨a, len, cap, m, k, D, Pl, hcs, _, hl, hm, hmm, hx, hcell⟩
  · simp at hcs
    obtain ⟨rfl, rfl, rfl⟩ := hcs
    exact ⟨fun _ => none, fun _ => 0, fun _ => 0, fun _ _ => ⟨0, ⟨#[]⟩, 0, none, 0, 0, ⟨#[]⟩, fun _ => ⟨#[]⟩, fun _ => ⟨#[]⟩⟩, ⟨fun h => absurd h (Nat.lt_irrefl _), fun j hj => absurd hj (Nat.not_lt_zero _)⟩, fun h => absurd h (Nat.lt_irrefl _)⟩
  · simp at hcs
    obtain ⟨rfl, rfl, rfl⟩ := hcs
    simp only [if_true] at hmm
    subst hmm
    have hx1 : x.1 = .slice ((List.range N).map D) ((List.range (m - N)).map fun j => D (N + j)) := by rw [hx]
    have hsp : 0 < N → a.spot = none := fun h0 => by
      obtain ⟨cs', h1, h2⟩ := hcell 0 (by omega)
      rw [cellsNodesK] at h1
      obtain ⟨_, hlen, hc⟩ := World.cells?_some h1
      have e0 := hc 0 (by omega)
      rw [List.getElem?_eq_getElem (by omega)] at e0
      simpa [Addr.add] using World.cell?_spot e0
    have inst : Inhabited (Option Addr × Nat × Nat × (Nat → Nod)) := ⟨none, 0, 0, fun _ => ⟨0, ⟨#[]⟩, 0, none, 0, 0, ⟨#[]⟩, fun _ => ⟨#[]⟩, fun _ => ⟨#[]⟩⟩⟩
    obtain ⟨F, hF⟩ := choose_lt (α := Option Addr × Nat × Nat × (Nat → Nod)) (n := N) (p := fun j q => W.cell? ⟨a.block, a.off + j, none⟩ = some (.slice q.1 q.2.1 q.2.2.1) ∧ ListAt W q.1 q.2.1 q.2.2.2 ∧ q.2.1 ≤ maxLen ∧ q.2.1 ≤ q.2.2.1 ∧ ∀ i, i < q.2.1 → I64 (q.2.2.2 i).k) (fun j hj => by
      obtain ⟨cs', h1, h2⟩ := hcell j (by omega)
      rw [cellsNodesK, addr_plainK (hsp (by omega)), Nat.mul_one] at h1
      obtain ⟨_, hlen, hc⟩ := World.cells?_some h1
      match cs', hlen with
      | [v], _ =>
        obtain ⟨ao, n, c, L, rfl, g1, g2, g3, g4⟩ := read_listK h2
        have e0 := hc 0 (by omega)
        rw [addr_add] at e0
        exact ⟨(ao, n, c, L), e0, g1, g2, g3, g4⟩)
    refine ⟨fun j => (F j).1, fun j => (F j).2.1, fun j => (F j).2.2.1, fun j => (F j).2.2.2, ⟨fun h0 => ⟨a.block, a.off, ?_, ?_, fun j hj => (hF j hj).1⟩, fun j hj => (hF j hj).2⟩, fun _ => ⟨_, _, hx1, by simp⟩⟩
    · have := hsp h0
      obtain ⟨b, o, s⟩ := a
      cases this
      rfl
    · exact World.block_lt_of_cell? W ⟨a.block, a.off + 0, none⟩ (hF 0 h0).1
end
set_option maxHeartbeats 1000000 in
set_option maxRecDepth 100000 in
theorem steps_lifted (os : Os) (started : os.Started) (H : Type) (enc : TypeId × Value → H) :
    ReturnsInHanded {} Try.checked os 5 .any (Rows.stepsSpec.pre6 enc Try.prog Try.f5 Rows.stepsRow.domain false) (Rows.stepsSpec.post enc Try.prog Try.f5 false true false false) := by
  refine returnsInHanded_of_change_sized (C := Try.checked) ownS started (by kernel_rfl) Try.func5
    (ChangeSpec.witness6 (enc := enc) (C := Try.checked) false ⟨#[], #[.slice none 0 0], []⟩ 8 (by kernel_rfl) (by kernel_rfl) (by kernel_rfl) (by kernel_rfl)) ?_
  intro W base args ds gs before hval0 hW _ hsz0 _
  have hsz : (DataW.weightsEach Try.prog (Try.f5.params.toList ++ Rows.stepsSpec.plain.varTypes Try.prog) (ds ++ gs)).all (· ≤ reachBytes) = true := hsz0
  clear hsz0
  have hval : ∀ (j : Nat) t v, Try.f5.params[j]? = some t → args[j]? = some v → Value.okWide Try.prog W .any base t v := hval0
  have hW' := hW
  obtain ⟨p, q, hA0, hV, rfl, hfz, _⟩ := hW
  have hA : DataW.TrodAll enc Try.prog W 0 (fun _ => true) true Try.f5.params.toList args.toList ds p := hA0
  rw [Try.params5] at hA hval hsz
  obtain ⟨v0, d0, rfl, rfl, h0⟩ := trodAll_one hA
  obtain ⟨rfl, rfl⟩ := trodVars_none hV
  obtain ⟨a0, len, cap, rfl⟩ := okWide_slice Try.underlying49 (hval 0 49 v0 rfl rfl)
  have h0k := h0
  obtain ⟨fuel, hf⟩ := h0
  clear hA0 hval0 hA
  simp only [List.append_nil] at hW' hfz hsz
  have hlt : ∀ x ∈ p, x.block < W.heap.size := fun x hx => hW'.lt x (by simp [hx])
  obtain ⟨ao, nn, cc, Ls, hT, hes⟩ := read_treesK (x := (d0, p)) hf
  have hn : len ≤ 8796093022208 := by
    by_cases h0 : 0 < len
    · obtain ⟨es, sp, e1, e2⟩ := hes h0
      simp only at e1
      subst e1
      have hw := sized_slice hsz (j := 0) (t := 49) (e := 22) rfl rfl Try.underlying49
      have er : reachBytes = 140737488351232 := rfl
      rw [bytesNodes, er] at hw
      omega
    · omega
  refine (steps_any a0 len cap ao nn cc Ls W hn hT).mono fun e W' ⟨he, hb⟩ => ?_
  subst he
  have ARG : DataW.Trod enc Try.prog W' 0 (fun x => decide (x < W.heap.size)) true 49 (.slice a0 len cap) d0 p :=
    Below.trod laidOutS (by kernel_rfl) (of_decide_eq_true (by kernel_rfl)) h0k hb hlt
  refine ⟨_, rfl, _, _, _, [], p, [], hW', ?_, ?_, rfl, hb.frame _, fun h => by cases h⟩
  · exact trodAll_mk1 (shut_bool Try.underlying4 true)
  · exact trodAll_mk1 ARG
theorem steps_holds : Rows.StepsSaid :=
  OpenClaim.holds_of_wide 5 Try.f5 rfl rfl rfl rfl rfl rfl rfl ⟨rfl, rfl, rfl, rfl, rfl⟩ rfl rfl rfl rfl rfl (by kernel_rfl) Try.func5 (by kernel_rfl)
    (of_decide_eq_true (by kernel_rfl)) (by unfold Func.isWrapper; rw [if_neg (of_decide_eq_false (by kernel_rfl))]; exact ⟨rfl, rfl⟩)
    (fun os started H enc _ => steps_lifted os started H enc)
#print axioms steps_holds
end Go.Proofs.Ytobgcaemnpkbmaa
