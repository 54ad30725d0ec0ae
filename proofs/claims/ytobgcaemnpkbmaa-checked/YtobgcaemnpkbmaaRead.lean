/-
  From the reading of the argument to the list of nodes that it is.
-/
import Derived.Test.YtobgcaemnpkbmaaTop
import Derived.Test.YtobgcaemnpkbmaaRd0
namespace Go.Proofs.Ytobgcaemnpkbmaa
open Go.ChangeShapes Go.WideShapes Go.ChangeAt Go.RowKit Go.Deep

section
variable {H : Type} {enc : TypeId × Value → H} {W : World} {base : Nat} {held : Bool} {fuel : Nat}

theorem weightsAll_mem {P : Program} {e : TypeId} : ∀ {l : List (DataW H)} {d : DataW H}, d ∈ l → ∀ n ∈ d.weights P e, n ∈ DataW.weightsAll P e l
  | d' :: r, d, hd, n, hn => by
    simp only [DataW.weightsAll, List.mem_append]
    rcases List.mem_cons.1 hd with rfl | h
    · exact Or.inl hn
    · exact Or.inr (weightsAll_mem h n hn)

/-- The reach of a node's attributes. -/
theorem sized_attrs {ds : List (DataW H)} (h : (DataW.weightsEach Try.prog [22] ds).all (· ≤ reachBytes) = true) {elems sp' : List (DataW H)} (hd : ds[0]? = some (.slice elems sp')) {d0 d1 d2 d4 : DataW H} {es sp : List (DataW H)}
    (hx : DataW.agg [d0, d1, d2, .slice es sp, d4] ∈ elems) : (es.length + sp.length) * 32 ≤ reachBytes := by
  refine of_decide_eq_true (List.all_eq_true.1 h _ (DataW.weights_mem_each (t := 22) (j := 0) rfl hd _ ?_))
  simp only [DataW.weights, Try.underlying22, List.mem_cons, List.mem_append]
  refine Or.inr (Or.inl (weightsAll_mem hx _ ?_))
  simp [DataW.weights, DataW.weightsEach, Try.underlying28, Try.underlying26, bytesAttr]

theorem reach_eq : reachBytes = 140737488351232 := rfl

set_option maxRecDepth 100000 in
/-- The argument read: it is a list of nodes. -/
theorem read_list {ao : Option Addr} {n c : Nat} {x : DataW H × List MemPlace} (h : DataW.trod enc Try.prog W base (fun _ => true) held fuel 22 [.slice ao n c] = some x)
    (hsz : (DataW.weightsEach Try.prog [22] [x.1]).all (· ≤ reachBytes) = true) : ∃ L : Nat → Nod, ListAt W ao n L ∧ In L n ∧ n * 72 ≤ 140737488351232 := by
  rcases open_slice Try.underlying22 h with ⟨hcs, _⟩ | ⟨a, len, cap, m, k, D, Pl, hcs, _, hl, hm, hmm, hx, hcell⟩
  · simp at hcs
    obtain ⟨rfl, rfl, rfl⟩ := hcs
    exact ⟨fun _ => spareN, fun h => absurd h (Nat.lt_irrefl _), ⟨fun i hi => absurd hi (Nat.not_lt_zero _), fun i hi => absurd hi (Nat.not_lt_zero _)⟩, by omega⟩
  · simp at hcs
    obtain ⟨rfl, rfl, rfl⟩ := hcs
    simp only [if_true] at hmm
    subst hmm
    have hx1 : x.1 = .slice ((List.range n).map D) ((List.range (m - n)).map fun j => D (n + j)) := by rw [hx]
    rw [hx1] at hsz
    have hw := sized_slice hsz (j := 0) (t := 22) (e := 28) rfl rfl Try.underlying22
    rw [bytesNode, reach_eq] at hw
    simp at hw
    have hsp : 0 < n → a.spot = none := fun h0 => by
      obtain ⟨cs', h1, h2⟩ := hcell 0 (by omega)
      rw [cellsNode] at h1
      obtain ⟨_, _, hc⟩ := World.cells?_some h1
      obtain ⟨hlen, _⟩ : cs'.length = 5 ∧ True := ⟨(World.cells?_some h1).2.1, trivial⟩
      have e0 := hc 0 (by omega)
      rw [List.getElem?_eq_getElem (by omega)] at e0
      simpa [Addr.add] using World.cell?_spot e0
    have inst : Inhabited Nod := ⟨spareN⟩
    obtain ⟨L, hL⟩ := choose_lt (α := Nod) (n := n) (p := fun i q => NodAt W a.block (a.off + i * 5) q ∧ (q.ao = none → q.an = 0) ∧ q.an * 32 ≤ 140737488351232) (fun i hi => by
      obtain ⟨cs', h1, h2⟩ := hcell i (by omega)
      rw [cellsNode, addr_plain (hsp (by omega))] at h1
      obtain ⟨q, g1, g2, g3⟩ := read_node h1 h2
      refine ⟨q, g1, fun e => (g2 e).1, ?_⟩
      by_cases hne : q.ao = none
      · rw [(g2 hne).1]; omega
      · obtain ⟨d0, d1, d2, es, sp, d4, e1, e2⟩ := g3 hne
        have := sized_attrs hsz (elems := (List.range n).map D) (sp' := _) rfl (d0 := d0) (d1 := d1) (d2 := d2) (d4 := d4) (es := es) (sp := sp) (List.mem_map.2 ⟨i, List.mem_range.2 hi, e1⟩)
        rw [reach_eq] at this
        omega)
    refine ⟨L, fun h0 => ⟨a.block, a.off, ?_, ?_, fun i hi => (hL i hi).1⟩, ⟨fun i hi => (hL i hi).2.1, fun i hi => (hL i hi).2.2⟩, by omega⟩
    · have := hsp h0
      obtain ⟨b, o, s⟩ := a
      cases this
      rfl
    · exact World.block_lt_of_cell? W ⟨a.block, a.off + 0 * 5, none⟩ (hL 0 h0).1.c0

end
end Go.Proofs.Ytobgcaemnpkbmaa
