/-
  From the reading of a node to what lies in memory.
-/
import Derived.Test.YtobgcaemnpkbmaaNodes
import Derived.ProofKit
import Derived.SizedLaws
import Derived.Deep.SlicePairs
namespace Go.Proofs.Ytobgcaemnpkbmaa
open Go.ChangeShapes Go.WideShapes Go.ChangeAt Go.RowKit Go.Deep

theorem cellsNode : Try.prog.cellsOf 28 = 5 := by kernel_rfl
theorem cellsAttr : Try.prog.cellsOf 58 = 2 := by kernel_rfl
theorem cellsInt : Try.prog.cellsOf 3 = 1 := by kernel_rfl
theorem cellsStr : Try.prog.cellsOf 9 = 1 := by kernel_rfl
theorem cellsAttrs : Try.prog.cellsOf 26 = 1 := by kernel_rfl
theorem bytesNode : Try.prog.bytesOf 28 = 72 := by kernel_rfl
theorem bytesAttr : Try.prog.bytesOf 58 = 32 := by kernel_rfl

section
variable {H : Type} {enc : TypeId × Value → H} {W : World} {base : Nat} {spare : Nat → Bool} {held : Bool} {fuel : Nat}

theorem addr_plain {a : Addr} (h : a.spot = none) (j : Nat) : a.add j = ⟨a.block, a.off + j, none⟩ := by
  obtain ⟨b, o, s⟩ := a
  cases h
  exact addr_add b o j

theorem read_attrs {v : Value} {x : DataW H × List MemPlace} (h : DataW.trod enc Try.prog W base spare held fuel 26 [v] = some x) :
    ∃ (ao : Option Addr) (an ac : Nat) (nm vl : Nat → ByteArray), v = .slice ao an ac ∧ an ≤ maxLen ∧ AttrsAt W ao an nm vl ∧ (ao = none → an = 0 ∧ ac = 0) ∧ (ao ≠ none → ∃ es sp, x.1 = .slice es sp ∧ es.length = an) := by
  rcases open_slice_pairs Try.underlying26 Try.underlying58 cellsAttr rfl rfl cellsStr cellsStr h with ⟨hcs, _⟩ | ⟨a, len, cap, m, n, V0, V1, D0, D1, P0, P1, hcs, _, hl, hm, hmm, hx, hcell⟩
  · simp at hcs
    exact ⟨none, 0, 0, fun _ => ⟨#[]⟩, fun _ => ⟨#[]⟩, hcs, Nat.zero_le _, fun j hj => absurd hj (Nat.not_lt_zero _), fun _ => ⟨rfl, rfl⟩, fun h => absurd rfl h⟩
  · simp at hcs
    have hlm : len ≤ m := by rw [hmm]; split <;> omega
    obtain ⟨nm, hnm⟩ := choose_lt (α := ByteArray) (n := len) (p := fun i s => V0 i = .string s ∧ s.size ≤ maxLen) (fun i hi => by
      obtain ⟨_, _, t0, _⟩ := hcell i (by omega)
      obtain ⟨s, e, _, hs⟩ := DataW.trod_string Try.underlying9 t0
      simp at e
      exact ⟨s, e, hs⟩)
    obtain ⟨vl, hvl⟩ := choose_lt (α := ByteArray) (n := len) (p := fun i s => V1 i = .string s ∧ s.size ≤ maxLen) (fun i hi => by
      obtain ⟨_, _, _, t1⟩ := hcell i (by omega)
      obtain ⟨s, e, _, hs⟩ := DataW.trod_string Try.underlying9 t1
      simp at e
      exact ⟨s, e, hs⟩)
    refine ⟨some a, len, cap, nm, vl, hcs, by omega, fun j hj => ?_, (fun h => by cases h), fun _ => ⟨_, _, by rw [hx], by simp⟩⟩
    have hsp : a.spot = none := by simpa [Addr.add] using World.cell?_spot (hcell 0 (by omega)).1
    obtain ⟨c0, c1, _, _⟩ := hcell j (by omega)
    rw [addr_plain hsp, (hnm j hj).1] at c0
    rw [addr_plain hsp, (hvl j hj).1] at c1
    refine ⟨a.block, a.off, ?_, World.block_lt_of_cell? W ⟨a.block, a.off + j * 2, none⟩ c0, c0, c1, (hnm j hj).2, (hvl j hj).2⟩
    obtain ⟨b, o, s⟩ := a
    cases hsp
    rfl

set_option maxRecDepth 100000 in
theorem read_node {b p : Nat} {cs : List Value} {x : DataW H × List MemPlace} (hc : W.cells? base ⟨b, p, none⟩ 5 = some cs) (h : DataW.trod enc Try.prog W base spare held fuel 28 cs = some x) :
    ∃ m : Nod, NodAt W b p m ∧ (m.ao = none → m.an = 0 ∧ m.ac = 0) ∧ (m.ao ≠ none → ∃ d0 d1 d2 es sp d4, x.1 = .agg [d0, d1, d2, .slice es sp, d4] ∧ es.length = m.an) := by
  obtain ⟨_, hlen, hcell⟩ := World.cells?_some hc
  obtain ⟨xs, k, _, hx, _, hxl, hf⟩ := DataW.trod_struct Try.underlying28 h
  match cs, hlen, xs, hxl with
  | [v0, v1, v2, v3, v4], _, [y0, y1, y2, y3, y4], _ =>
    have g0 := hf 0 _ rfl
    have g1 := hf 1 _ rfl
    have g2 := hf 2 _ rfl
    have g3 := hf 3 _ rfl
    have g4 := hf 4 _ rfl
    simp [cellsInt, cellsStr, cellsAttrs] at g0 g1 g2 g3 g4
    obtain ⟨d, e0, _, _⟩ := DataW.trod_int Try.underlying3 g0
    obtain ⟨t, e1, _, ht⟩ := DataW.trod_string Try.underlying9 g1
    obtain ⟨key, e2, _, _⟩ := DataW.trod_int Try.underlying3 g2
    obtain ⟨ao, an, ac, nm, vl, e3, han, hat, hnil, hsome⟩ := read_attrs g3
    obtain ⟨tx, e4, _, htx⟩ := DataW.trod_string Try.underlying9 g4
    simp at e0 e1 e2 e4
    subst e0 e1 e2 e3 e4
    have q0 := hcell 0 (by omega)
    have q1 := hcell 1 (by omega)
    have q2 := hcell 2 (by omega)
    have q3 := hcell 3 (by omega)
    have q4 := hcell 4 (by omega)
    rw [addr_add] at q0 q1 q2 q3 q4
    refine ⟨⟨d, t, key, ao, an, ac, tx, nm, vl⟩, ⟨q0, q1, q2, q3, q4, ⟨han, ht, htx, hat⟩⟩, hnil, fun hne => ?_⟩
    obtain ⟨es, sp, hes, hl⟩ := hsome hne
    refine ⟨y0.1, y1.1, y2.1, es, sp, y4.1, ?_, hl⟩
    rw [hx]
    simp [hes]

end
end Go.Proofs.Ytobgcaemnpkbmaa
