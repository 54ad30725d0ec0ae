/-
  The law 'Checked' walked: it answers true.
-/
import Derived.Test.YtobgcaemnpkbmaaWhole
import Derived.Test.YtobgcaemnpkbmaaLaw0
namespace Go.Proofs.Ytobgcaemnpkbmaa
open Go.RowKit

/-- Two nodes that differ in where their attributes lie alone. -/
structure Alike (m m' : Nod) : Prop where
  d : m.d = m'.d
  t : m.t = m'.t
  k : m.k = m'.k
  an : m.an = m'.an
  nm : m.nm = m'.nm
  vl : m.vl = m'.vl
  x : m.x = m'.x
theorem newN_alike (m : Nod) (g : Nat) : Alike (newN m g) m := ⟨rfl, rfl, rfl, rfl, rfl, rfl, rfl⟩
theorem Alike.el {m m' : Nod} (h : Alike m m') : elB m = elB m' := by unfold elB; rw [h.t, h.x, h.k, h.an, h.nm, h.vl]
theorem Alike.tx {m m' : Nod} (h : Alike m m') : txB m = txB m' := by unfold txB; rw [h.t, h.x, h.k, h.an]
theorem alike_back {L L' : Nat → Nod} {i : Nat} (h : ∀ j, j ≤ i → Alike (L j) (L' j)) : ∀ m, m ≤ i → goBack L i m = goBack L' i m := by
  intro m
  induction m with
  | zero => intro _; rfl
  | succ m ih =>
    intro hm
    have a := h m (by omega)
    have b := h i (Nat.le_refl _)
    rw [goBack, goBack, ih (by omega), a.d, a.t, a.k, b.d, b.k]
theorem alike_may {L L' : Nat → Nod} {i : Nat} (h : ∀ j, j ≤ i → Alike (L j) (L' j)) : mayB L i = mayB L' i := by
  unfold mayB
  rw [(h 0 (Nat.zero_le _)).d, (h 0 (Nat.zero_le _)).el, (h i (Nat.le_refl _)).d, (h i (Nat.le_refl _)).el, (h i (Nat.le_refl _)).tx, (h (i - 1) (by omega)).d, alike_back h i (Nat.le_refl _)]
theorem search_congr {f g : Nat → Bool} {n : Nat} (h : ∀ i, i < n → f i = g i) : search f n = search g n := by
  unfold search
  have e : ∀ l : List Nat, (∀ i, i ∈ l → i < n) → l.find? (fun i => !f i) = l.find? (fun i => !g i) := by
    intro l
    induction l with
    | nil => intro _; rfl
    | cons a l ih =>
      intro hl
      rw [List.find?_cons, List.find?_cons, h a (hl a (List.mem_cons_self ..)), ih (fun i hi => hl i (List.mem_cons_of_mem _ hi))]
  rw [e (List.range n) (fun i hi => List.mem_range.1 hi)]
theorem check_lent (L : Nat → Nod) (G : Nat → Nat) (n : Nat) : checkOut (mayB (lentN L G n)) n = checkOut (mayB L) n := by
  unfold checkOut
  rw [search_congr (f := mayB (lentN L G n)) (g := mayB L) fun i hi => alike_may fun j hj => by
    unfold lentN; rw [if_pos (by omega)]; exact newN_alike _ _]

/-- What is lent is a list of nodes. -/
theorem lent_list {W w : World} {ao : Option Addr} {L : Nat → Nod} {G : Nat → Nat} {n : Nat} (h : ListAt W ao n L) (hin : In L n)
    (hr : w.rowIs W.heap.size 28 ((n + 3) * 5) (nodesCell (lentN L G n))) (hR : RowsAt w L G W.heap.size n) : ListAt w (some ⟨W.heap.size, 0, none⟩) n (lentN L G n) := by
  intro hn
  obtain ⟨b, o, _, hL⟩ := h hn
  refine ⟨W.heap.size, 0, rfl, hr.lt, fun i hi => ?_⟩
  have cell : ∀ r, r < 5 → w.cell? ⟨W.heap.size, 0 + i * 5 + r, none⟩ = some (nodCell (lentN L G n i) r) := fun r hr5 => by
    rw [Nat.zero_add, hr.cell (by omega), nodesCell_at _ _ _ hr5]
  have el : lentN L G n i = newN (L i) (G i) := by unfold lentN; rw [if_pos hi]
  have ok := (hL.node i hi).ok
  refine ⟨cell 0 (by omega), cell 1 (by omega), cell 2 (by omega), cell 3 (by omega), cell 4 (by omega), ?_⟩
  rw [el]
  refine ⟨ok.an, ok.t, ok.x, ?_⟩
  intro j hj
  have hj : j < (L i).an := hj
  have hne : (L i).ao ≠ none := fun e => by have := hin.nil i hi e; omega
  obtain ⟨b', o', _, _, _, _, s0, s1⟩ := ok.at' j hj
  have row := hR.row i hi hne
  refine ⟨G i, 0, by rw [newN_some hne], row.lt, ?_, ?_, s0, s1⟩
  · rw [Nat.zero_add, row.cell (by omega)]; unfold attrRow; rw [attrCell_even, if_pos hj]; rfl
  · rw [Nat.zero_add, row.cell (by omega)]; unfold attrRow; rw [attrCell_odd, if_pos hj]; rfl

set_option maxRecDepth 100000 in
set_option maxHeartbeats 400000 in
theorem lent_nil (g n c m k : Nat) (w : World) :
    Calls Try.prog 9 #[.slice (some ⟨g, 0, none⟩) m k, .slice none n c] w fun e w' => e = .returned (.slice none 0 0) ∧ w' = w := by
  have heq : ∀ w a l c, (binOp .eql 22 (.slice a l c) (.slice none 0 0)).run Try.prog w = .ok (.bool a.isNone) w := fun w a l c =>
    Lib.run_eql_slice_nil (P := Try.prog) w 22 28 a l c 0 0 Try.underlying22
  go_enter Try.func9, Try.ntmps9
  go_wp2
  go_ret
  exact ⟨rfl, rfl⟩

set_option maxRecDepth 100000 in
set_option maxHeartbeats 400000 in
theorem lent_some (ad : Addr) (g n c : Nat) (w : World) (hn : n ≤ 140737488351232) :
    Calls Try.prog 9 #[.slice (some ⟨g, 0, none⟩) (n + 3) (n + 3), .slice (some ad) n c] w fun e w' => e = .returned (.slice (some ⟨g, 0, none⟩) n (n + 3)) ∧ w' = w := by
  have heq : ∀ w a l c, (binOp .eql 22 (.slice a l c) (.slice none 0 0)).run Try.prog w = .ok (.bool a.isNone) w := fun w a l c =>
    Lib.run_eql_slice_nil (P := Try.prog) w 22 28 a l c 0 0 Try.underlying22
  go_enter Try.func9, Try.ntmps9
  go_wp2
  go_ret
  exact ⟨rfl, rfl⟩

theorem lent_any (ao : Option Addr) (g n c : Nat) (w : World) (hn : n ≤ 140737488351232) :
    Calls Try.prog 9 #[.slice (some ⟨g, 0, none⟩) (n + 3) (n + 3), .slice ao n c] w fun e w' => e = .returned (.slice (lentAo ao g) (lentLen ao n) (lentCap ao n)) ∧ w' = w := by
  cases ao with
  | none => exact lent_nil g n c (n + 3) (n + 3) w
  | some ad => exact lent_some ad g n c w hn

theorem none_out (L : Nat → Nod) : checkOut (mayB L) 0 = (1, 0) := by unfold checkOut; rw [if_pos (by omega)]
theorem whole_of {W w w' : World} {L : Nat → Nod} {G : Nat → Nat} {n : Nat} (hr : w.rowIs W.heap.size 28 ((n + 3) * 5) (nodesCell (lentN L G n))) (hR : RowsAt w L G W.heap.size n) (hb : Below W.heap.size W w) (hb' : Below w.heap.size w w') :
    Gs L G W.heap.size n ∧ Wh w' W w' W.heap.size L G n 0 0 := by
  have h := Wh.grow (M := w) (kr := 0) (ka := 0) ⟨⟨_, hr, fun _ _ => rfl⟩, fun i _ h2 h3 => hR.row i h2 h3, hb, Touch.of_below (Below.refl _ _)⟩ hb'
  exact ⟨⟨hR.above, hR.rise⟩, h.row, h.rows, h.below, Touch.of_below (Below.refl _ _)⟩

end Go.Proofs.Ytobgcaemnpkbmaa
