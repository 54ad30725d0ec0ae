/-
  Plain facts on lists of nodes: the way back to the parent, as the program goes it and as the reference does.
-/
import Derived.Test.YtobgcaemnpkbmaaParent
namespace Go.Proofs.Ytobgcaemnpkbmaa
open Go.RowKit

theorem last_below (f : Nat → Int) (x : Int) : ∀ i, 0 < i → f 0 < x → ∃ p, p < i ∧ f p < x ∧ ∀ j, p < j → j < i → x ≤ f j := by
  intro i
  induction i with
  | zero => intro h; exact absurd h (Nat.lt_irrefl _)
  | succ i ih =>
    intro _ h0
    by_cases hi : f i < x
    · exact ⟨i, Nat.lt_succ_self _, hi, fun j h1 h2 => by omega⟩
    · by_cases hz : i = 0
      · subst hz; exact absurd h0 hi
      · obtain ⟨p, h1, h2, h3⟩ := ih (by omega) h0
        refine ⟨p, by omega, h2, fun j g1 g2 => ?_⟩
        by_cases e : j = i
        · subst e; omega
        · exact h3 j g1 (by omega)

theorem mayB_zero {L : Nat → Nod} (h : mayB L 0 = true) : (L 0).d = 0 := by
  unfold mayB at h; rw [if_pos rfl] at h; simp at h; exact h.1
theorem mayB_step {L : Nat → Nod} {j : Nat} (h : mayB L (j + 1) = true) : (L (j + 1)).d ≤ (L j).d + 1 := by
  unfold mayB at h; rw [if_neg (by omega)] at h; simp [depthB] at h; omega

/-- Node p is node i's parent: all between are no less deep than i. -/
structure Par (L : Nat → Nod) (i p : Nat) : Prop where
  lt : p < i
  up : (L p).d = (L i).d - 1
  deep : ∀ j, p < j → j < i → (L i).d ≤ (L j).d

theorem par_of {L : Nat → Nod} {i : Nat} (h0 : 0 < i) (hall : ∀ j, j < i → mayB L j = true) (h1 : 1 ≤ (L i).d) (h2 : (L i).d ≤ (L (i - 1)).d + 1) : ∃ p, Par L i p := by
  obtain ⟨p, g1, g2, g3⟩ := last_below (fun j => (L j).d) (L i).d i h0 (by show (L 0).d < _; have := mayB_zero (hall 0 h0); omega)
  refine ⟨p, g1, ?_, g3⟩
  have g2 : (L p).d < (L i).d := g2
  by_cases e : p + 1 = i
  · have : i - 1 = p := by omega
    rw [this] at h2; omega
  · have a := mayB_step (hall (p + 1) (by omega))
    have b := g3 (p + 1) (by omega) (by omega)
    have b : (L i).d ≤ (L (p + 1)).d := b
    omega

theorem Par.parent {L : Nat → Nod} {i p : Nat} (h : Par L i p) : parentOf L i i = p := by
  have aux : ∀ m, p < m → m ≤ i → parentOf L i m = p := by
    intro m
    induction m with
    | zero => intro h; omega
    | succ m ih =>
      intro g1 g2
      by_cases e : m = p
      · subst e; rw [parentOf, if_pos h.up]
      · have := h.deep m (by omega) (by omega)
        rw [parentOf, if_neg (by omega)]
        exact ih (by omega) (by omega)
  exact aux i h.lt (Nat.le_refl _)

theorem Par.back {L : Nat → Nod} {i p : Nat} (h : Par L i p) : ∀ m, p < m → m ≤ i → (∀ j, m ≤ j → j < i → ¬ ((L i).k ≠ 0 ∧ (L j).d = (L i).d ∧ (L j).k = (L i).k)) → goBack L i i = goBack L i m := by
  intro m h1 h2 h3
  have aux : ∀ t, m ≤ t → t ≤ i → goBack L i t = goBack L i m := by
    intro t
    induction t with
    | zero => intro a b; omega
    | succ t ih =>
      intro a b
      by_cases e : m = t + 1
      · rw [e]
      · have := h.deep t (by omega) (by omega)
        rw [goBack_on (by omega) (h3 t (by omega) (by omega))]
        exact ih (by omega) (by omega)
  exact aux i h2 (Nat.le_refl _)

/-- No node between has the key. -/
theorem Par.good {L : Nat → Nod} {i p : Nat} (h : Par L i p) (h3 : ∀ j, p < j → j < i → ¬ ((L i).k ≠ 0 ∧ (L j).d = (L i).d ∧ (L j).k = (L i).k)) : goBack L i i = !(L p).t.toList.isEmpty := by
  rw [h.back (p + 1) (by omega) h.lt (fun j a b => h3 j (by omega) b), goBack_up]
  have := h.up; omega

/-- A node between has the key. -/
theorem Par.bad {L : Nat → Nod} {i p j : Nat} (h : Par L i p) (h1 : p < j) (h2 : j < i) (h3 : (L i).k ≠ 0 ∧ (L j).d = (L i).d ∧ (L j).k = (L i).k) : goBack L i i = false := by
  have aux : ∀ t, j < t → t ≤ i → goBack L i t = false := by
    intro t
    induction t with
    | zero => intro a; omega
    | succ t ih =>
      intro a b
      have hd := h.deep t (by omega) (by omega)
      by_cases c : (L i).k ≠ 0 ∧ (L t).d = (L i).d ∧ (L t).k = (L i).k
      · exact goBack_same (by omega) c.1 c.2.1 c.2.2
      · rw [goBack_on (by omega) c]
        by_cases e : t = j
        · subst e; exact absurd h3 c
        · exact ih (by omega) (by omega)
  exact aux i h2 (Nat.le_refl _)

theorem Par.text {L : Nat → Nod} {i p : Nat} (h : Par L i p) (ht : (L p).t.toList.isEmpty = true) : goBack L i i = false := by
  by_cases c : ∃ j, p < j ∧ j < i ∧ ((L i).k ≠ 0 ∧ (L j).d = (L i).d ∧ (L j).k = (L i).k)
  · obtain ⟨j, h1, h2, h3⟩ := c
    exact h.bad h1 h2 h3
  · rw [h.good (fun j a b d => c ⟨j, a, b, d⟩), ht]; rfl

/-- The first node. -/
theorem mayB_first {L : Nat → Nod} : mayB L 0 = (oneB (L 0) && decide ((L 0).d = 0) && !(L 0).t.toList.isEmpty) := by
  unfold mayB
  rw [if_pos rfl]
  cases ht : (L 0).t.toList.isEmpty with
  | true => unfold elB; rw [name_nonempty ht]; simp
  | false => unfold oneB txB; rw [ht]; simp [Bool.and_comm]
/-- A later one. -/
theorem mayB_later {L : Nat → Nod} {i : Nat} (h : 0 < i) : mayB L i = (oneB (L i) && depthB (L (i - 1)).d (L i).d && goBack L i i) := by
  unfold mayB oneB
  rw [if_neg (by omega)]
  rw [Bool.and_comm (depthB _ _)]

/-- What a node that may be by itself has for a key. -/
theorem oneB_key {n : Nod} (h : oneB n = true) : 0 ≤ n.k := by
  unfold oneB elB txB at h
  simp at h
  rcases h with h | h
  · exact h.1.2
  · omega

end Go.Proofs.Ytobgcaemnpkbmaa
