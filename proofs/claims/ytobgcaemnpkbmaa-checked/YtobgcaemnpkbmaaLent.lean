/-
  The list that is lent: its nodes' cells, the rows of their attributes.
-/
import Derived.Test.YtobgcaemnpkbmaaAttrsMk
namespace Go.Proofs.Ytobgcaemnpkbmaa
open Go.RowKit

theorem nodeInfo : (Try.prog.info? 28).map (fun i => (i.zero, i.size, i.bytes)) = some (some (.agg #[.int .i64 0, .string ⟨#[]⟩, .int .i64 0, .slice none 0 0, .string ⟨#[]⟩]), 5, 72) := by kernel_rfl
theorem nodeSize : (Try.prog.info? 28).map (·.size) = some 5 := by kernel_rfl

/-- A node's cell. -/
def nodCell (m : Nod) : Nat → Value
  | 0 => .int .i64 m.d
  | 1 => .string m.t
  | 2 => .int .i64 m.k
  | 3 => .slice m.ao m.an m.ac
  | _ => .string m.x
/-- The cells of a row of nodes. -/
def nodesCell (M : Nat → Nod) (j : Nat) : Value := nodCell (M (j / 5)) (j % 5)

theorem nodesCell_at (M : Nat → Nod) (i r : Nat) (hr : r < 5) : nodesCell M (i * 5 + r) = nodCell (M i) r := by
  unfold nodesCell
  have e1 : (i * 5 + r) / 5 = i := by omega
  have e2 : (i * 5 + r) % 5 = r := by omega
  rw [e1, e2]
theorem nodesCell_zero (M : Nat → Nod) (i : Nat) : nodesCell M (i * 5) = .int .i64 (M i).d := nodesCell_at M i 0 (by omega)
theorem nodCell_one (m : Nod) (j : Nat) : (nodCell m j).oneCell' = true := by
  unfold nodCell; split <;> rfl
theorem five_cases (j : Nat) : ∃ i r, r < 5 ∧ j = i * 5 + r := ⟨j / 5, j % 5, by omega, by omega⟩
theorem nodesCell_congr {M M' : Nat → Nod} {j : Nat} (h : M (j / 5) = M' (j / 5)) : nodesCell M j = nodesCell M' j := by
  unfold nodesCell; rw [h]

/-- The node with its attributes in a block of their own. -/
def newN (m : Nod) (g : Nat) : Nod := { m with ao := if m.ao = none then none else some ⟨g, 0, none⟩, ac := if m.ao = none then 0 else m.an + 3 }
/-- The node that stands behind. -/
def spareN : Nod := ⟨0, spareS, 0, none, 0, 0, ⟨#[]⟩, fun _ => ⟨#[]⟩, fun _ => ⟨#[]⟩⟩
/-- The nodes of a list that is lent. -/
def lentN (L : Nat → Nod) (G : Nat → Nat) (n : Nat) (i : Nat) : Nod := if i < n then newN (L i) (G i) else spareN

/-- The rows of the attributes of the first k nodes, one behind the other. -/
structure RowsAt (w : World) (L : Nat → Nod) (G : Nat → Nat) (g k : Nat) : Prop where
  row : ∀ i, i < k → (L i).ao ≠ none → w.rowIs (G i) 58 (((L i).an + 3) * 2) (attrRow (L i).an (L i).nm (L i).vl)
  above : ∀ i, i < k → (L i).ao ≠ none → g < G i
  rise : ∀ i j, i < j → j < k → (L i).ao ≠ none → (L j).ao ≠ none → G i < G j

theorem rowIs_below {w w' : World} {b : Nat} {t : TypeId} {n : Nat} {f : Nat → Value} (h : w.rowIs b t n f) {B : Nat} (hb : Below B w w') (hB : b < B) : w'.rowIs b t n f := h.of_block (hb.block b hB)

theorem RowsAt.zero (w : World) (L : Nat → Nod) (G : Nat → Nat) (g : Nat) : RowsAt w L G g 0 :=
  ⟨fun _ h => absurd h (Nat.not_lt_zero _), fun _ h => absurd h (Nat.not_lt_zero _), fun _ _ _ h => absurd h (Nat.not_lt_zero _)⟩
theorem RowsAt.below {w w' : World} {L : Nat → Nod} {G : Nat → Nat} {g k : Nat} (h : RowsAt w L G g k) (hb : Below w.heap.size w w') : RowsAt w' L G g k :=
  ⟨fun i hi hn => rowIs_below (h.row i hi hn) hb (h.row i hi hn).lt, h.above, h.rise⟩
/-- A store into another block. -/
theorem RowsAt.setCell {w : World} {L : Nat → Nod} {G : Nat → Nat} {g k : Nat} (h : RowsAt w L G g k) (j : Nat) (v : Value) : RowsAt (w.setCell ⟨g, j, none⟩ v) L G g k :=
  ⟨fun i hi hn => (h.row i hi hn).setOther (by have := h.above i hi hn; show G i ≠ g; omega) v, h.above, h.rise⟩
/-- A node without attributes. -/
theorem RowsAt.skip {w : World} {L : Nat → Nod} {G : Nat → Nat} {g k : Nat} (h : RowsAt w L G g k) (hk : (L k).ao = none) : RowsAt w L G g (k + 1) :=
  ⟨fun i hi hn => h.row i (by by_cases e : i = k; subst e; exact absurd hk hn; omega) hn, fun i hi hn => h.above i (by by_cases e : i = k; subst e; exact absurd hk hn; omega) hn,
    fun i j hij hj hn hm => h.rise i j hij (by by_cases e : j = k; subst e; exact absurd hk hm; omega) hn hm⟩
/-- A node more. -/
theorem RowsAt.more {w w' : World} {L : Nat → Nod} {G : Nat → Nat} {g k : Nat} (h : RowsAt w L G g k) (hg : g < w.heap.size) (hb : Below w.heap.size w w')
    (hr : w'.rowIs w.heap.size 58 (((L k).an + 3) * 2) (attrRow (L k).an (L k).nm (L k).vl)) : RowsAt w' L (fun i => if i = k then w.heap.size else G i) g (k + 1) := by
  refine ⟨fun i hi hn => ?_, fun i hi hn => ?_, fun i j hij hj hn hm => ?_⟩
  · by_cases e : i = k
    · subst e; simp only [if_true]; exact hr
    · simp only [e, if_false]; exact (h.below hb).row i (by omega) hn
  · by_cases e : i = k
    · subst e; simp only [if_true]; exact hg
    · simp only [e, if_false]; exact h.above i (by omega) hn
  · have e1 : i ≠ k := by omega
    simp only [e1, if_false]
    by_cases e : j = k
    · subst e; simp only [if_true]; exact (h.row i (by omega) hn).lt
    · simp only [e, if_false]; exact h.rise i j hij (by omega) hn hm

/-- The row of nodes behind k rounds. -/
def midN (L : Nat → Nod) (G : Nat → Nat) (k : Nat) (i : Nat) : Nod := if i < k then newN (L i) (G i) else L i

theorem newN_nil {m : Nod} {g : Nat} (h : m.ao = none) (h0 : m.an = 0) : newN m g = { m with ao := none, an := 0, ac := 0 } := by
  unfold newN; simp [h, h0]
theorem newN_some {m : Nod} {g : Nat} (h : m.ao ≠ none) : newN m g = { m with ao := some ⟨g, 0, none⟩, ac := m.an + 3 } := by
  unfold newN; simp [h]

/-- One cell of the row turns. -/
theorem midN_step {L : Nat → Nod} {G G' : Nat → Nat} {k : Nat} (hG : ∀ i, i < k → (L i).ao ≠ none → G i = G' i) (v : Value) (hv : v = nodCell (newN (L k) (G' k)) 3) (j : Nat) :
    (if j = k * 5 + 3 then v else nodesCell (midN L G k) j) = nodesCell (midN L G' (k + 1)) j := by
  obtain ⟨i, r, hr, e⟩ := five_cases j
  subst e
  rw [nodesCell_at _ _ _ hr, nodesCell_at _ _ _ hr]
  by_cases h1 : i * 5 + r = k * 5 + 3
  · have e1 : i = k := by omega
    have e2 : r = 3 := by omega
    subst e1 e2
    rw [if_pos rfl, hv]
    unfold midN
    rw [if_pos (by omega)]
  · rw [if_neg h1]
    by_cases h2 : i < k
    · have : midN L G k i = midN L G' (k + 1) i := by
        unfold midN
        rw [if_pos h2, if_pos (by omega)]
        by_cases hn : (L i).ao = none
        · unfold newN; simp [hn]
        · rw [hG i h2 hn]
      rw [this]
    · by_cases h3 : i = k
      · subst h3
        have hr3 : r ≠ 3 := by omega
        unfold midN newN
        rw [if_neg (by omega), if_pos (by omega)]
        match r, hr, hr3 with
        | 0, _, _ => rfl
        | 1, _, _ => rfl
        | 2, _, _ => rfl
        | 4, _, _ => rfl
      · have : midN L G k i = midN L G' (k + 1) i := by
          unfold midN
          rw [if_neg h2, if_neg (by omega)]
        rw [this]

end Go.Proofs.Ytobgcaemnpkbmaa
