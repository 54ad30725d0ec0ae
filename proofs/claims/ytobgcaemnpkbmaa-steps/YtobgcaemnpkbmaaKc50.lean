/- Hi -/
import Derived.Test.YtobgcaemnpkbmaaKc46
import Derived.ProofKit
import Derived.SizedLaws
import Derived.Deep.SlicePairs
namespace Go.Proofs.Ytobgcaemnpkbmaa
open Go.ChangeShapes Go.WideShapes Go.ChangeAt Go.RowKit Go.Deep
theorem cellsNodeK : Try.prog.cellsOf 28 = 5 := by kernel_rfl
theorem cellsAttrK : Try.prog.cellsOf 58 = 2 := by kernel_rfl
theorem cellsIntK : Try.prog.cellsOf 3 = 1 := by kernel_rfl
theorem cellsStrK : Try.prog.cellsOf 9 = 1 := by kernel_rfl
theorem cellsAttrsK : Try.prog.cellsOf 26 = 1 := by kernel_rfl
theorem wf_i64K {n : Int} (h : (Lit.int .i64 n).wf = true) : I64 n := by
  unfold Lit.wf at h
  rw [Bool.and_eq_true] at h
  have h1 : IntKind.min .i64 ≤ n := of_decide_eq_true h.1
  have h2 : n ≤ IntKind.max .i64 := of_decide_eq_true h.2
  have e1 : IntKind.min .i64 = -9223372036854775808 := by decide
  have e2 : IntKind.max .i64 = 9223372036854775807 := by decide
  rw [e1] at h1
  rw [e2] at h2
  exact ⟨h1, h2⟩
section
variable {H : Type} {enc : TypeId × Value → H} {W : World} {base : Nat} {spare : Nat → Bool} {held : Bool} {fuel : Nat}
theorem addr_plainK {a : Addr} (h : a.spot = none) (j : Nat) : a.add j = ⟨a.block, a.off + j, none⟩ := by
  obtain ⟨b, o, s⟩ := a
  cases h
  exact addr_add b o j
theorem read_attrsK {v : Value} {x : DataW H × List MemPlace} (h : DataW.trod enc Try.prog W base spare held fuel 26 [v] = some x) :
    ∃ (ao : Option Addr) (an ac : Nat) (nm vl : Nat → ByteArray), v = .slice ao an ac ∧ an ≤ maxLen ∧ AttrsAt W ao an nm vl ∧ (ao = none → an = 0 ∧ ac = 0) ∧ (ao ≠ none → ∃ es sp, x.1 = .slice es sp ∧ es.length = an) := by
  rcases open_slice_pairs Try.underlying26 Try.underlying58 cellsAttrK rfl rfl cellsStrK cellsStrK h with ⟨hcs, _⟩ | ⟨a, len, cap, m, n, V0, V1, D0, D1, P0, P1, hcs, _, hl, hm, hmm, hx, hcell⟩
  · simp at hcs
    exact ⟨none, 0, 0, fun _ => ⟨#[]⟩, fun _ => ⟨#[]⟩, hcs, Nat.zero_le _, fun j hj => absurd hj (Nat.not_lt_zero _), fun _ => ⟨rfl, rfl⟩, fun h => absurd rfl h⟩
  · simp at hcs
    have hlm : len ≤ m := by rw [hmm]; split <;> omega
    obtain ⟨nm, hnm⟩ := choose_lt (α := ByteArray) (n := len) (p := fun i s => V0 i = .string s ∧ s.size ≤ maxLen) (fun i hi => by
      obtain ⟨_, _, t0, _⟩ := hcell i (by omega)
      obtain ⟨s, e, _, hs⟩ := DataW.trod_string Try.underlying9 t0
      simp at e
      exact ⟨s, e, hs⟩)
    obtain ⟨vl, hvl⟩ := choose_lt (α := ByteArray) (n := len) (p := fun i s => V1 i = .string s ∧ s.size ≤ maxLen) (fun i hi => by
      obtain ⟨_, _, _, t1⟩ := hcell i (by omega)
      obtain ⟨s, e, _, hs⟩ := DataW.trod_string Try.underlying9 t1
      simp at e
      exact ⟨s, e, hs⟩)
    refine ⟨some a, len, cap, nm, vl, hcs, by omega, fun j hj => ?_, (fun h => by cases h), fun _ => ⟨_, _, by rw [hx], by simp⟩⟩
    have hsp : a.spot = none := by simpa [Addr.add] using World.cell?_spot (hcell 0 (by omega)).1
    obtain ⟨c0, c1, _, _⟩ := hcell j (by omega)
    rw [addr_plainK hsp, (hnm j hj).1] at c0
    rw [addr_plainK hsp, (hvl j hj).1] at c1
    refine ⟨a.block, a.off, ?_, World.block_lt_of_cell? W ⟨a.block, a.off + j * 2, none⟩ c0, c0, c1, (hnm j hj).2, (hvl j hj).2⟩
    obtain ⟨b, o, s⟩ := a
    cases hsp
    rfl
set_option maxRecDepth 100000 in
theorem read_nodeK {b p : Nat} {cs : List Value} {x : DataW H × List MemPlace} (hc : W.cells? base ⟨b, p, none⟩ 5 = some cs) (h : DataW.trod enc Try.prog W base spare held fuel 28 cs = some x) :
    ∃ m : Nod, NodAt W b p m ∧ (m.ao = none → m.an = 0 ∧ m.ac = 0) ∧ I64 m.k := by
  obtain ⟨_, hlen, hcell⟩ := World.cells?_some hc
  obtain ⟨xs, k, _, hx, _, hxl, hf⟩ := DataW.trod_struct Try.underlying28 h
  match cs, hlen, xs, hxl with
  | [v0, v1, v2, v3, v4], _, [y0, y1, y2, y3, y4], _ =>
    have g0 := hf 0 _ rfl
    have g1 := hf 1 _ rfl
    have g2 := hf 2 _ rfl
    have g3 := hf 3 _ rfl
    have g4 := hf 4 _ rfl
    simp [cellsIntK, cellsStrK, cellsAttrsK] at g0 g1 g2 g3 g4
    obtain ⟨d, e0, _, _⟩ := DataW.trod_int Try.underlying3 g0
    obtain ⟨t, e1, _, ht⟩ := DataW.trod_string Try.underlying9 g1
    obtain ⟨key, e2, _, w2⟩ := DataW.trod_int Try.underlying3 g2
    obtain ⟨ao, an, ac, nm, vl, e3, han, hat, hnil, _⟩ := read_attrsK g3
    obtain ⟨tx, e4, _, htx⟩ := DataW.trod_string Try.underlying9 g4
    simp at e0 e1 e2 e4
    subst e0 e1 e2 e3 e4
    have q0 := hcell 0 (by omega)
    have q1 := hcell 1 (by omega)
    have q2 := hcell 2 (by omega)
    have q3 := hcell 3 (by omega)
    have q4 := hcell 4 (by omega)
    rw [addr_add] at q0 q1 q2 q3 q4
    refine ⟨⟨d, t, key, ao, an, ac, tx, nm, vl⟩, ⟨q0, q1, q2, q3, q4, ⟨han, ht, htx, hat⟩⟩, hnil, wf_i64K w2⟩
set_option maxRecDepth 100000 in
theorem read_listK {v : Value} {x : DataW H × List MemPlace} (h : DataW.trod enc Try.prog W base (fun _ => true) held fuel 22 [v] = some x) :
    ∃ (ao : Option Addr) (n c : Nat) (L : Nat → Nod), v = .slice ao n c ∧ ListAt W ao n L ∧ n ≤ maxLen ∧ n ≤ c ∧ ∀ i, i < n → I64 (L i).k := by
  have inst : Inhabited Nod := ⟨⟨0, ⟨#[]⟩, 0, none, 0, 0, ⟨#[]⟩, fun _ => ⟨#[]⟩, fun _ => ⟨#[]⟩⟩⟩
  rcases open_slice Try.underlying22 h with ⟨hcs, _⟩ | ⟨a, len, cap, m, k, D, Pl, hcs, _, hl, hm, hmm, hx, hcell⟩
  · simp at hcs
    exact ⟨none, 0, 0, fun _ => default, hcs, fun h => absurd h (Nat.lt_irrefl _), Nat.zero_le _, Nat.le_refl _, fun i hi => absurd hi (Nat.not_lt_zero _)⟩
  · simp at hcs
    simp only [if_true] at hmm
    subst hmm
    have hsp : 0 < len → a.spot = none := fun h0 => by
      obtain ⟨cs', h1, h2⟩ := hcell 0 (by omega)
      rw [cellsNodeK] at h1
      obtain ⟨_, hlen, hc⟩ := World.cells?_some h1
      have e0 := hc 0 (by omega)
      rw [List.getElem?_eq_getElem (by omega)] at e0
      simpa [Addr.add] using World.cell?_spot e0
    obtain ⟨L, hL⟩ := choose_lt (α := Nod) (n := len) (p := fun i q => NodAt W a.block (a.off + i * 5) q ∧ I64 q.k) (fun i hi => by
      obtain ⟨cs', h1, h2⟩ := hcell i (by omega)
      rw [cellsNodeK, addr_plainK (hsp (by omega))] at h1
      obtain ⟨q, g1, _, g3⟩ := read_nodeK h1 h2
      exact ⟨q, g1, g3⟩)
    refine ⟨some a, len, m, L, hcs, fun h0 => ⟨a.block, a.off, ?_, ?_, fun i hi => (hL i hi).1⟩, by omega, by omega, fun i hi => (hL i hi).2⟩
    · have := hsp h0
      obtain ⟨b, o, s⟩ := a
      cases this
      rfl
    · exact World.block_lt_of_cell? W ⟨a.block, a.off + 0 * 5, none⟩ (hL 0 h0).1.c0
end
end Go.Proofs.Ytobgcaemnpkbmaa
