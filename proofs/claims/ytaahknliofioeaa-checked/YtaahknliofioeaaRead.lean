/-
  From the reading of the argument to the list of nodes that it is.
-/
import Derived.Test.YtaahknliofioeaaTop
import Derived.ProofKit
import Derived.SizedLaws
import Derived.Deep.SlicePairs
namespace Go.Proofs.Ytaahknliofioeaa
open Go.ChangeShapes Go.WideShapes Go.ChangeAt Go.RowKit Go.Deep

theorem cellsNode : Try.prog.cellsOf 28 = 5 := by kernel_rfl
theorem cellsAttr : Try.prog.cellsOf 58 = 2 := by kernel_rfl
theorem cellsInt : Try.prog.cellsOf 3 = 1 := by kernel_rfl
theorem cellsStr : Try.prog.cellsOf 9 = 1 := by kernel_rfl
theorem cellsAttrs : Try.prog.cellsOf 26 = 1 := by kernel_rfl
theorem bytesNode : Try.prog.bytesOf 28 = 72 := by kernel_rfl
theorem bytesAttr : Try.prog.bytesOf 58 = 32 := by kernel_rfl

section
variable {H : Type} {enc : TypeId × Value → H} {W : World} {base : Nat} {spare : Nat → Bool} {held : Bool} {fuel : Nat}

theorem addr_plain {a : Addr} (h : a.spot = none) (j : Nat) : a.add j = ⟨a.block, a.off + j, none⟩ := by
  obtain ⟨b, o, s⟩ := a
  cases h
  exact addr_add b o j

theorem read_attrs {v : Value} {x : DataW H × List MemPlace} (h : DataW.trod enc Try.prog W base spare held fuel 26 [v] = some x) :
    ∃ (ao : Option Addr) (an ac : Nat) (nm vl : Nat → ByteArray), v = .slice ao an ac ∧ an ≤ maxLen ∧ AttrsAt W ao an nm vl ∧ (ao = none → an = 0) ∧ (ao ≠ none → ∃ es sp, x.1 = .slice es sp ∧ es.length = an) := by
  rcases open_slice_pairs Try.underlying26 Try.underlying58 cellsAttr rfl rfl cellsStr cellsStr h with ⟨hcs, _⟩ | ⟨a, len, cap, m, n, V0, V1, D0, D1, P0, P1, hcs, _, hl, hm, hmm, hx, hcell⟩
  · simp at hcs
    exact ⟨none, 0, 0, fun _ => ⟨#[]⟩, fun _ => ⟨#[]⟩, hcs, Nat.zero_le _, fun j hj => absurd hj (Nat.not_lt_zero _), fun _ => rfl, fun h => absurd rfl h⟩
  · simp at hcs
    have hlm : len ≤ m := by rw [hmm]; split <;> omega
    obtain ⟨nm, hnm⟩ := choose_lt (α := ByteArray) (n := len) (p := fun i s => V0 i = .string s ∧ s.size ≤ maxLen) (fun i hi => by
      obtain ⟨_, _, t0, _⟩ := hcell i (by omega)
      obtain ⟨s, e, _, hs⟩ := DataW.trod_string Try.underlying9 t0
      simp at e
      exact ⟨s, e, hs⟩)
    obtain ⟨vl, hvl⟩ := choose_lt (α := ByteArray) (n := len) (p := fun i s => V1 i = .string s ∧ s.size ≤ maxLen) (fun i hi => by
      obtain ⟨_, _, _, t1⟩ := hcell i (by omega)
      obtain ⟨s, e, _, hs⟩ := DataW.trod_string Try.underlying9 t1
      simp at e
      exact ⟨s, e, hs⟩)
    refine ⟨some a, len, cap, nm, vl, hcs, by omega, fun j hj => ?_, (fun h => by cases h), fun _ => ⟨_, _, by rw [hx], by simp⟩⟩
    have hsp : a.spot = none := by simpa [Addr.add] using World.cell?_spot (hcell 0 (by omega)).1
    obtain ⟨c0, c1, _, _⟩ := hcell j (by omega)
    rw [addr_plain hsp, (hnm j hj).1] at c0
    rw [addr_plain hsp, (hvl j hj).1] at c1
    refine ⟨a.block, a.off, ?_, World.block_lt_of_cell? W ⟨a.block, a.off + j * 2, none⟩ c0, c0, c1, (hnm j hj).2, (hvl j hj).2⟩
    obtain ⟨b, o, s⟩ := a
    cases hsp
    rfl

set_option maxRecDepth 100000 in
theorem read_node {b p : Nat} {cs : List Value} {x : DataW H × List MemPlace} (hc : W.cells? base ⟨b, p, none⟩ 5 = some cs) (h : DataW.trod enc Try.prog W base spare held fuel 28 cs = some x) :
    ∃ m : Nod, NodAt W b p m ∧ (m.ao = none → m.an = 0) ∧ (m.ao ≠ none → ∃ d0 d1 d2 es sp d4, x.1 = .agg [d0, d1, d2, .slice es sp, d4] ∧ es.length = m.an) := by
  obtain ⟨_, hlen, hcell⟩ := World.cells?_some hc
  obtain ⟨xs, k, _, hx, _, hxl, hf⟩ := DataW.trod_struct Try.underlying28 h
  match cs, hlen, xs, hxl with
  | [v0, v1, v2, v3, v4], _, [y0, y1, y2, y3, y4], _ =>
    have g0 := hf 0 _ rfl
    have g1 := hf 1 _ rfl
    have g2 := hf 2 _ rfl
    have g3 := hf 3 _ rfl
    have g4 := hf 4 _ rfl
    simp [cellsInt, cellsStr, cellsAttrs] at g0 g1 g2 g3 g4
    obtain ⟨d, e0, _, _⟩ := DataW.trod_int Try.underlying3 g0
    obtain ⟨t, e1, _, ht⟩ := DataW.trod_string Try.underlying9 g1
    obtain ⟨key, e2, _, _⟩ := DataW.trod_int Try.underlying3 g2
    obtain ⟨ao, an, ac, nm, vl, e3, han, hat, hnil, hsome⟩ := read_attrs g3
    obtain ⟨tx, e4, _, htx⟩ := DataW.trod_string Try.underlying9 g4
    simp at e0 e1 e2 e4
    subst e0 e1 e2 e3 e4
    have q0 := hcell 0 (by omega)
    have q1 := hcell 1 (by omega)
    have q2 := hcell 2 (by omega)
    have q3 := hcell 3 (by omega)
    have q4 := hcell 4 (by omega)
    rw [addr_add] at q0 q1 q2 q3 q4
    refine ⟨⟨d, t, key, ao, an, ac, tx, nm, vl⟩, ⟨q0, q1, q2, q3, q4, ⟨han, ht, htx, hat⟩⟩, hnil, fun hne => ?_⟩
    obtain ⟨es, sp, hes, hl⟩ := hsome hne
    refine ⟨y0.1, y1.1, y2.1, es, sp, y4.1, ?_, hl⟩
    rw [hx]
    simp [hes]

theorem weightsAll_mem {P : Program} {e : TypeId} : ∀ {l : List (DataW H)} {d : DataW H}, d ∈ l → ∀ n ∈ d.weights P e, n ∈ DataW.weightsAll P e l
  | d' :: r, d, hd, n, hn => by
    simp only [DataW.weightsAll, List.mem_append]
    rcases List.mem_cons.1 hd with rfl | h
    · exact Or.inl hn
    · exact Or.inr (weightsAll_mem h n hn)

/-- The reach of a node's attributes. -/
theorem sized_attrs {ds : List (DataW H)} (h : (DataW.weightsEach Try.prog [22] ds).all (· ≤ reachBytes) = true) {elems sp' : List (DataW H)} (hd : ds[0]? = some (.slice elems sp')) {d0 d1 d2 d4 : DataW H} {es sp : List (DataW H)}
    (hx : DataW.agg [d0, d1, d2, .slice es sp, d4] ∈ elems) : (es.length + sp.length) * 32 ≤ reachBytes := by
  refine of_decide_eq_true (List.all_eq_true.1 h _ (DataW.weights_mem_each (t := 22) (j := 0) rfl hd _ ?_))
  simp only [DataW.weights, Try.underlying22, List.mem_cons, List.mem_append]
  refine Or.inr (Or.inl (weightsAll_mem hx _ ?_))
  simp [DataW.weights, DataW.weightsEach, Try.underlying28, Try.underlying26, bytesAttr]

theorem reach_eq : reachBytes = 140737488351232 := rfl

set_option maxRecDepth 100000 in
/-- The argument read: it is a list of nodes. -/
theorem read_list {ao : Option Addr} {n c : Nat} {x : DataW H × List MemPlace} (h : DataW.trod enc Try.prog W base (fun _ => true) held fuel 22 [.slice ao n c] = some x)
    (hsz : (DataW.weightsEach Try.prog [22] [x.1]).all (· ≤ reachBytes) = true) : ∃ L : Nat → Nod, ListAt W ao n L ∧ In L n ∧ n * 72 ≤ 140737488351232 := by
  rcases open_slice Try.underlying22 h with ⟨hcs, _⟩ | ⟨a, len, cap, m, k, D, Pl, hcs, _, hl, hm, hmm, hx, hcell⟩
  · simp at hcs
    obtain ⟨rfl, rfl, rfl⟩ := hcs
    exact ⟨fun _ => spareN, fun h => absurd h (Nat.lt_irrefl _), ⟨fun i hi => absurd hi (Nat.not_lt_zero _), fun i hi => absurd hi (Nat.not_lt_zero _)⟩, by omega⟩
  · simp at hcs
    obtain ⟨rfl, rfl, rfl⟩ := hcs
    simp only [if_true] at hmm
    subst hmm
    have hx1 : x.1 = .slice ((List.range n).map D) ((List.range (m - n)).map fun j => D (n + j)) := by rw [hx]
    rw [hx1] at hsz
    have hw := sized_slice hsz (j := 0) (t := 22) (e := 28) rfl rfl Try.underlying22
    rw [bytesNode, reach_eq] at hw
    simp at hw
    have hsp : 0 < n → a.spot = none := fun h0 => by
      obtain ⟨cs', h1, h2⟩ := hcell 0 (by omega)
      rw [cellsNode] at h1
      obtain ⟨_, _, hc⟩ := World.cells?_some h1
      obtain ⟨hlen, _⟩ : cs'.length = 5 ∧ True := ⟨(World.cells?_some h1).2.1, trivial⟩
      have e0 := hc 0 (by omega)
      rw [List.getElem?_eq_getElem (by omega)] at e0
      simpa [Addr.add] using World.cell?_spot e0
    have inst : Inhabited Nod := ⟨spareN⟩
    obtain ⟨L, hL⟩ := choose_lt (α := Nod) (n := n) (p := fun i q => NodAt W a.block (a.off + i * 5) q ∧ (q.ao = none → q.an = 0) ∧ q.an * 32 ≤ 140737488351232) (fun i hi => by
      obtain ⟨cs', h1, h2⟩ := hcell i (by omega)
      rw [cellsNode, addr_plain (hsp (by omega))] at h1
      obtain ⟨q, g1, g2, g3⟩ := read_node h1 h2
      refine ⟨q, g1, g2, ?_⟩
      by_cases hne : q.ao = none
      · rw [g2 hne]; omega
      · obtain ⟨d0, d1, d2, es, sp, d4, e1, e2⟩ := g3 hne
        have := sized_attrs hsz (elems := (List.range n).map D) (sp' := _) rfl (d0 := d0) (d1 := d1) (d2 := d2) (d4 := d4) (es := es) (sp := sp) (List.mem_map.2 ⟨i, List.mem_range.2 hi, e1⟩)
        rw [reach_eq] at this
        omega)
    refine ⟨L, fun h0 => ⟨a.block, a.off, ?_, ?_, fun i hi => (hL i hi).1⟩, ⟨fun i hi => (hL i hi).2.1, fun i hi => (hL i hi).2.2⟩, by omega⟩
    · have := hsp h0
      obtain ⟨b, o, s⟩ := a
      cases this
      rfl
    · exact World.block_lt_of_cell? W ⟨a.block, a.off + 0 * 5, none⟩ (hL 0 h0).1.c0

end
end Go.Proofs.Ytaahknliofioeaa
