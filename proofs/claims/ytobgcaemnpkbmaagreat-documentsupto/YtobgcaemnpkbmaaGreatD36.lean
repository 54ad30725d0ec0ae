/- Mark Law0 Lent Nodes -/
import Derived.Test.YtobgcaemnpkbmaaGreatD06
import Derived.Test.YtobgcaemnpkbmaaGreatD03
import Derived.Test.YtobgcaemnpkbmaaGreatD31
namespace Go.Proofs.YtobgcaemnpkbmaaGreat
open Go.RowKit
def marks (pat : Nat → Value) (size m : Nat) : List Value := (List.range (m * size)).map fun j => pat (j % size)
theorem marks_length (pat : Nat → Value) (size m : Nat) : (marks pat size m).length = m * size := by unfold marks; simp
theorem marks_get {pat : Nat → Value} {size m j : Nat} (h : j < m * size) : (marks pat size m)[j]? = some (pat (j % size)) := by unfold marks; simp [h]
theorem marks_one {pat : Nat → Value} {size m : Nat} (h : ∀ r, (pat r).oneCell' = true) : ∀ u ∈ marks pat size m, u.oneCell' = true := by
  intro u hu
  obtain ⟨j, _, rfl⟩ := List.mem_map.1 hu
  exact h _
def Keeps (pat : Nat → Value) (size : Nat) (w w' : World) : Prop := ∀ b j, w.cell? ⟨b, j, none⟩ = some (pat (j % size)) → w'.cell? ⟨b, j, none⟩ = some (pat (j % size))
theorem Keeps.refl (pat : Nat → Value) (size : Nat) (w : World) : Keeps pat size w w := fun _ _ h => h
theorem Keeps.trans {pat : Nat → Value} {size : Nat} {a b c : World} (h : Keeps pat size a b) (k : Keeps pat size b c) : Keeps pat size a c := fun x j e => k x j (h x j e)
theorem Keeps.grown {pat : Nat → Value} {size : Nat} {w w' : World} (h : w.grownBy w' none) : Keeps pat size w w' := fun b j e =>
  (World.cell?_of_block (w := w) (a := ⟨b, j, none⟩) (h.block b (block_lt_of_cell e) (by simp))).trans e
theorem Keeps.alloc (pat : Nat → Value) (size : Nat) (w : World) (o : Obj) : Keeps pat size w (w.alloc o) := Keeps.grown (World.grownBy_alloc w o none)
theorem run_app_mark {P : Program} (w : World) (t ty e : TypeId) (i : TypeInfo) (z : Value) (size bytes : Nat) (ht : P.underlying t = some (.slice e)) (hi : P.info? e = some i) (hz : i.zero = some z)
    (hsize : i.size = size) (hby : i.bytes = bytes) (hzs : z.cells.size = size) (pat : Nat → Value) (hpat : ∀ r, (pat r).oneCell' = true)
    (v : Value) (n : Nat) (xs : List Value) (hown : w.ownsRow 0 e size v n xs)
    (a : Addr) (m c : Nat) (hm : 0 < m) (hnews : ∀ j u, (marks pat size m)[j]? = some u → w.cell? (a.add j) = some u)
    (h63 : n + m ≤ 9223372036854775807) (hbytes : (n + m) * bytes ≤ 140737488355328) :
    ∃ v' w', (Builtin.append_ #[t, t] ty #[v, .slice (some a) m c]).run P w = .ok v' w' ∧ w'.ownsRow 0 e size v' (n + m) (xs ++ marks pat size m) ∧ w'.ownsRow 0 e size v n xs ∧ Grew w w' v v' ∧ Keeps pat size w w' := by
  subst hsize hby
  have hm63 : n + m ≤ maxLen := by unfold maxLen; omega
  have hxs := hown.1
  have hl := marks_length pat i.size m
  have hlen : (xs ++ marks pat i.size m).length = (n + m) * i.size := by rw [List.length_append, hxs, hl, Nat.add_mul]
  have made : ∀ old, old < n + m → (w.drew.alloc (.cells (xs.toArray ++ (marks pat i.size m).toArray ++ Builtin.zeroCells z.cells (grownCap w (n + m) old e - (n + m))) e)).ownsRow 0 e i.size
      (.slice (some ⟨w.heap.size, 0, none⟩) (n + m) (grownCap w (n + m) old e)) (n + m) (xs ++ marks pat i.size m) := by
    intro old _
    have hge := grownCap_ge w (n + m) old e
    refine ⟨hlen, .inr ⟨w.heap.size, _, _, rfl, Nat.zero_le _, heap_alloc_new w.drew _, hge, grownCap_le_maxLen w (n + m) old e hm63, ?_, ?_⟩⟩
    · rw [Array.size_append, Array.size_append, size_zeroCells, hzs, List.size_toArray, List.size_toArray, hxs, hl, ← Nat.add_mul, ← Nat.add_mul]
      congr 1
      omega
    · rw [← hlen, Array.toList_append, Array.toList_append]
      exact List.take_left
  have grew : ∀ o : Obj, w.grownBy (w.drew.alloc o) none := fun o => ⟨rfl, rfl, rfl, by simp, fun k hk _ => heap_alloc_old w.drew _ hk⟩
  rcases hown.2 with ⟨rfl, rfl⟩ | ⟨g, cap, cur, rfl, hbg, hg, hnc, hcm, hcs, htake⟩
  · have hx : xs = [] := List.eq_nil_of_length_eq_zero (by simpa using hxs)
    subst hx
    have hr := run_append_nil (P := P) w t ty e i z ht hi hz a m c (marks pat i.size m) hl hnews hm (by omega) (by have hb := hbytes; simp only [Nat.zero_add] at hb; omega)
    have hgr := made 0 (by omega)
    simp only [Nat.zero_add, List.nil_append, Array.empty_append] at hgr ⊢
    exact ⟨_, _, hr, hgr, World.ownsRow_nil _ _ _ _, .inr ⟨rfl, grew _⟩, Keeps.grown (grew _)⟩
  · by_cases hroom : n + m ≤ cap
    · have hfit : n * i.size + (marks pat i.size m).length ≤ cur.size := by rw [hl, hcs, ← Nat.add_mul]; exact Nat.mul_le_mul_right _ hroom
      have hr := run_append_room (P := P) w t ty e i ht hi g n cap cur hg a m c (marks pat i.size m) hl hnews (marks_one hpat) hroom hfit
      have hh := setRow_heap w g cur (cur.toList.take (n * i.size) ++ marks pat i.size m ++ cur.toList.drop (n * i.size + (marks pat i.size m).length)).toArray e (0, 0) hg
      have hcl : cur.toList.length = cur.size := Array.length_toList
      have hsz : (cur.toList.take (n * i.size) ++ marks pat i.size m ++ cur.toList.drop (n * i.size + (marks pat i.size m).length)).length = cur.size := by
        simp only [List.length_append, List.length_take, List.length_drop, hcl]
        omega
      refine ⟨_, _, hr, ⟨hlen, .inr ⟨g, cap, _, rfl, hbg, hh, hroom, hcm, by rw [List.size_toArray, hsz]; exact hcs, ?_⟩⟩, ⟨hxs, .inr ⟨g, cap, _, rfl, hbg, hh, hnc, hcm, by rw [List.size_toArray, hsz]; exact hcs, ?_⟩⟩, .inl ⟨rfl, ⟨rfl, rfl, rfl, by simp, fun k _ hk => setRow_other w g k _ (fun e => hk (by simp [Value.ownBlock, e]))⟩, by simp⟩, ?_⟩
      · rw [htake, ← hlen]
        exact List.take_left
      · rw [htake, List.append_assoc, ← hxs]
        exact List.take_left
      · intro b j hbj
        by_cases hb : b = g
        · subst hb
          rw [cell_of_row w b j cur e (0, 0) hg] at hbj
          rw [cell_of_row _ b j _ e (0, 0) hh]
          have hjs : j < cur.size := by
            rcases Nat.lt_or_ge j cur.size with h | h
            · exact h
            · rw [Array.getElem?_eq_none h] at hbj; cases hbj
          rw [List.getElem?_toArray]
          have hcj : cur.toList[j]? = some (pat (j % i.size)) := by simpa using hbj
          by_cases h1 : j < n * i.size
          · rw [List.append_assoc, List.getElem?_append_left (by simp only [List.length_take, hcl]; omega), List.getElem?_take, if_pos h1]
            exact hcj
          · have ht2 : (cur.toList.take (n * i.size)).length = n * i.size := by simp only [List.length_take, hcl]; omega
            by_cases h2 : j < n * i.size + m * i.size
            · rw [List.getElem?_append_left (by rw [List.length_append, ht2, hl]; exact h2), List.getElem?_append_right (by omega), ht2, marks_get (by omega)]
              congr 2
              have e1 : j = (j - n * i.size) + n * i.size := by omega
              conv => rhs; rw [e1]
              rw [Nat.add_mul_mod_self_right]
            · rw [List.getElem?_append_right (by rw [List.length_append, ht2, hl]; omega), List.length_append, ht2, List.getElem?_drop, hl]
              rw [show n * i.size + m * i.size + (j - (n * i.size + m * i.size)) = j by omega]
              exact hcj
        · exact (World.cell?_of_block (w := w) (a := ⟨b, j, none⟩) (setRow_other w g b _ hb)).trans hbj
    · have hr := run_append_grow (P := P) w t ty e i z ht hi hz ⟨g, 0, none⟩ n cap xs hxs (hown.cells (g := g) rfl) a m c (marks pat i.size m) hl hnews (by omega) (by omega) (growslice_fits (by omega) hbytes)
      exact ⟨_, _, hr, made cap (by omega), hown.kept (grew _) (by cases hv : Value.ownBlock (.slice (some ⟨g, 0, none⟩) n cap) <;> simp), .inr ⟨rfl, grew _⟩, Keeps.grown (grew _)⟩
theorem wpList_app_mark {P : Program} (w : World) {ops : Array Oper} {rest : List Oper} {o : Oper} {a : Act} {Q : Exit → Act → World → Prop} (hgd : o.guard = none) (s x : Operand) (t : TypeId)
    (ho : o.op = .call { callee := .builtin .append, args := #[s, x], argTypes := #[t, t] })
    (e : TypeId) (i : TypeInfo) (z : Value) (size bytes : Nat) (ht : P.underlying t = some (.slice e)) (hi : P.info? e = some i) (hz : i.zero = some z)
    (hsize : i.size = size) (hby : i.bytes = bytes) (hzs : z.cells.size = size) (pat : Nat → Value) (hpat : ∀ r, (pat r).oneCell' = true)
    (v : Value) (n : Nat) (xs : List Value) (hs : a.eval s = v) (hown : w.ownsRow 0 e size v n xs)
    (ad : Addr) (m c : Nat) (hx : a.eval x = .slice (some ad) m c) (hm : 0 < m) (hnews : ∀ j u, (marks pat size m)[j]? = some u → w.cell? (ad.add j) = some u)
    (h63 : n + m ≤ 9223372036854775807) (hbytes : (n + m) * bytes ≤ 140737488355328)
    (h : ∀ v' w', Hid (w'.ownsRow 0 e size v' (n + m) (xs ++ marks pat size m)) → Hid (w'.ownsRow 0 e size v n xs) → Hid (Grew w w' v v') → Hid (Keeps pat size w w') → wpList P ops Q rest (a.put o.dst v') w') : wpList P ops Q (o :: rest) a w := by
  refine wpList_plain hgd fun K hK => ?_
  obtain ⟨v', w', hr, h2, h3, h4, h5⟩ := run_app_mark (P := P) w t o.type e i z size bytes ht hi hz hsize hby hzs pat hpat v n xs hown ad m c hm hnews h63 hbytes
  unfold Oper.wp execOp
  simp only [ho, resolve, invoke, builtin, Sem.run_bind, Sem.run_pure, Result.andThen_ok, List.map_toArray, List.map_cons, List.map_nil, hs, hx, hr]
  exact hK _ _ (h v' w' (hide h2) (hide h3) (hide h4) (hide h5))
def Marked (S : Nat → Prop) (pat : Nat → Value) (size : Nat) (w : World) (v : Value) : Prop :=
  ∃ ao n c, v = .slice ao n c ∧ n ≤ 1099511627776 ∧ (∀ ad, ao = some ad → S ad.block ∧ ad.block < w.heap.size) ∧ ∀ j, j < n * size → ∃ b, ao = some ⟨b, 0, none⟩ ∧ w.cell? ⟨b, j, none⟩ = some (pat (j % size))
theorem Marked.keeps {S S' : Nat → Prop} {pat : Nat → Value} {size : Nat} {w w' : World} {v : Value} (h : Marked S pat size w v) (hk : Keeps pat size w w') (hs : w.heap.size ≤ w'.heap.size) (hS : ∀ b, b < w.heap.size → S b → S' b) : Marked S' pat size w' v := by
  obtain ⟨ao, n, c, e, hn, ho, hc⟩ := h
  refine ⟨ao, n, c, e, hn, fun ad e => ⟨hS _ (ho ad e).2 (ho ad e).1, Nat.lt_of_lt_of_le (ho ad e).2 hs⟩, fun j hj => ?_⟩
  obtain ⟨b, e1, e2⟩ := hc j hj
  exact ⟨b, e1, hk b j e2⟩
theorem marked_of {S : Nat → Prop} {pat : Nat → Value} {e : TypeId} {size : Nat} {w : World} {v : Value} {n : Nat} (h : w.ownsRow 0 e size v n (marks pat size n)) (hn : n ≤ 1099511627776) (hS : ∀ b, v.ownBlock = some b → S b) : Marked S pat size w v := by
  rcases h.2 with ⟨rfl, rfl⟩ | ⟨g, cap, cur, rfl, _, hg, _⟩
  · exact ⟨none, 0, 0, rfl, by omega, fun ad e => (nomatch e), fun j hj => by simp at hj⟩
  · refine ⟨some ⟨g, 0, none⟩, n, cap, rfl, hn, fun ad e => ?_, fun j hj => ⟨g, rfl, ?_⟩⟩
    · cases e
      exact ⟨hS g rfl, (h.lt g rfl).2⟩
    · rw [h.cellAt j hj, marks_get hj]
theorem marks_app (pat : Nat → Value) (size n m : Nat) : marks pat size n ++ marks pat size m = marks pat size (n + m) := by
  apply List.ext_getElem?
  intro j
  by_cases h1 : j < n * size
  · rw [List.getElem?_append_left (by rw [marks_length]; exact h1), marks_get h1, marks_get (by rw [Nat.add_mul]; omega)]
  · rw [List.getElem?_append_right (by rw [marks_length]; omega), marks_length]
    by_cases h2 : j < (n + m) * size
    · rw [Nat.add_mul] at h2
      rw [marks_get (by omega), marks_get (by rw [Nat.add_mul]; exact h2)]
      congr 2
      have e1 : j = (j - n * size) + n * size := by omega
      conv => rhs; rw [e1]
      rw [Nat.add_mul_mod_self_right]
    · rw [Nat.add_mul] at h2
      rw [List.getElem?_eq_none (by rw [marks_length]; omega), List.getElem?_eq_none (by rw [marks_length, Nat.add_mul]; omega)]
end Go.Proofs.YtobgcaemnpkbmaaGreat
namespace Go.Proofs.YtobgcaemnpkbmaaGreat
open Go.RowKit
def lentAo (ao : Option Addr) (g : Nat) : Option Addr := if ao = none then none else some ⟨g, 0, none⟩
def lentLen (ao : Option Addr) (n : Nat) : Nat := if ao = none then 0 else n
def lentCap (ao : Option Addr) (n : Nat) : Nat := if ao = none then 0 else n + 3
end Go.Proofs.YtobgcaemnpkbmaaGreat
namespace Go.Proofs.YtobgcaemnpkbmaaGreat
open Go.RowKit
theorem nodeInfo : (Tryz.prog.info? 33).map (fun i => (i.zero, i.size, i.bytes)) = some (some (.agg #[.int .i64 0, .string ⟨#[]⟩, .int .i64 0, .slice none 0 0, .string ⟨#[]⟩]), 5, 72) := by kernel_rfl
theorem nodeSize : (Tryz.prog.info? 33).map (·.size) = some 5 := by kernel_rfl
def nodCell (m : Nod) : Nat → Value
  | 0 => .int .i64 m.d
  | 1 => .string m.t
  | 2 => .int .i64 m.k
  | 3 => .slice m.ao m.an m.ac
  | _ => .string m.x
def nodesCell (M : Nat → Nod) (j : Nat) : Value := nodCell (M (j / 5)) (j % 5)
theorem nodesCell_at (M : Nat → Nod) (i r : Nat) (hr : r < 5) : nodesCell M (i * 5 + r) = nodCell (M i) r := by
  unfold nodesCell
  have e1 : (i * 5 + r) / 5 = i := by omega
  have e2 : (i * 5 + r) % 5 = r := by omega
  rw [e1, e2]
theorem nodCell_one (m : Nod) (j : Nat) : (nodCell m j).oneCell' = true := by
  unfold nodCell; split <;> rfl
theorem five_cases (j : Nat) : ∃ i r, r < 5 ∧ j = i * 5 + r := ⟨j / 5, j % 5, by omega, by omega⟩
theorem nodesCell_congr {M M' : Nat → Nod} {j : Nat} (h : M (j / 5) = M' (j / 5)) : nodesCell M j = nodesCell M' j := by
  unfold nodesCell; rw [h]
def newN (m : Nod) (g : Nat) : Nod := { m with ao := if m.ao = none then none else some ⟨g, 0, none⟩, ac := if m.ao = none then 0 else m.an + 3 }
def spareN : Nod := ⟨0, spareS, 0, none, 0, 0, ⟨#[]⟩, fun _ => ⟨#[]⟩, fun _ => ⟨#[]⟩⟩
def lentN (L : Nat → Nod) (G : Nat → Nat) (n : Nat) (i : Nat) : Nod := if i < n then newN (L i) (G i) else spareN
structure RowsAt (w : World) (L : Nat → Nod) (G : Nat → Nat) (g k : Nat) : Prop where
  row : ∀ i, i < k → (L i).ao ≠ none → w.rowIs (G i) 72 (((L i).an + 3) * 2) (attrRow (L i).an (L i).nm (L i).vl)
  above : ∀ i, i < k → (L i).ao ≠ none → g < G i
  rise : ∀ i j, i < j → j < k → (L i).ao ≠ none → (L j).ao ≠ none → G i < G j
theorem rowIs_below {w w' : World} {b : Nat} {t : TypeId} {n : Nat} {f : Nat → Value} (h : w.rowIs b t n f) {B : Nat} (hb : Below B w w') (hB : b < B) : w'.rowIs b t n f := h.of_block (hb.block b hB)
theorem RowsAt.zero (w : World) (L : Nat → Nod) (G : Nat → Nat) (g : Nat) : RowsAt w L G g 0 :=
  ⟨fun _ h => absurd h (Nat.not_lt_zero _), fun _ h => absurd h (Nat.not_lt_zero _), fun _ _ _ h => absurd h (Nat.not_lt_zero _)⟩
theorem RowsAt.below {w w' : World} {L : Nat → Nod} {G : Nat → Nat} {g k : Nat} (h : RowsAt w L G g k) (hb : Below w.heap.size w w') : RowsAt w' L G g k :=
  ⟨fun i hi hn => rowIs_below (h.row i hi hn) hb (h.row i hi hn).lt, h.above, h.rise⟩
theorem RowsAt.setCell {w : World} {L : Nat → Nod} {G : Nat → Nat} {g k : Nat} (h : RowsAt w L G g k) (j : Nat) (v : Value) : RowsAt (w.setCell ⟨g, j, none⟩ v) L G g k :=
  ⟨fun i hi hn => (h.row i hi hn).setOther (by have := h.above i hi hn; show G i ≠ g; omega) v, h.above, h.rise⟩
theorem RowsAt.skip {w : World} {L : Nat → Nod} {G : Nat → Nat} {g k : Nat} (h : RowsAt w L G g k) (hk : (L k).ao = none) : RowsAt w L G g (k + 1) :=
  ⟨fun i hi hn => h.row i (by by_cases e : i = k; subst e; exact absurd hk hn; omega) hn, fun i hi hn => h.above i (by by_cases e : i = k; subst e; exact absurd hk hn; omega) hn,
    fun i j hij hj hn hm => h.rise i j hij (by by_cases e : j = k; subst e; exact absurd hk hm; omega) hn hm⟩
theorem RowsAt.more {w w' : World} {L : Nat → Nod} {G : Nat → Nat} {g k : Nat} (h : RowsAt w L G g k) (hg : g < w.heap.size) (hb : Below w.heap.size w w')
    (hr : w'.rowIs w.heap.size 72 (((L k).an + 3) * 2) (attrRow (L k).an (L k).nm (L k).vl)) : RowsAt w' L (fun i => if i = k then w.heap.size else G i) g (k + 1) := by
  refine ⟨fun i hi hn => ?_, fun i hi hn => ?_, fun i j hij hj hn hm => ?_⟩
  · by_cases e : i = k
    · subst e; simp only [if_true]; exact hr
    · simp only [e, if_false]; exact (h.below hb).row i (by omega) hn
  · by_cases e : i = k
    · subst e; simp only [if_true]; exact hg
    · simp only [e, if_false]; exact h.above i (by omega) hn
  · have e1 : i ≠ k := by omega
    simp only [e1, if_false]
    by_cases e : j = k
    · subst e; simp only [if_true]; exact (h.row i (by omega) hn).lt
    · simp only [e, if_false]; exact h.rise i j hij (by omega) hn hm
def midN (L : Nat → Nod) (G : Nat → Nat) (k : Nat) (i : Nat) : Nod := if i < k then newN (L i) (G i) else L i
theorem newN_nil {m : Nod} {g : Nat} (h : m.ao = none) (h0 : m.an = 0) : newN m g = { m with ao := none, an := 0, ac := 0 } := by
  unfold newN; simp [h, h0]
theorem newN_some {m : Nod} {g : Nat} (h : m.ao ≠ none) : newN m g = { m with ao := some ⟨g, 0, none⟩, ac := m.an + 3 } := by
  unfold newN; simp [h]
theorem midN_step {L : Nat → Nod} {G G' : Nat → Nat} {k : Nat} (hG : ∀ i, i < k → (L i).ao ≠ none → G i = G' i) (v : Value) (hv : v = nodCell (newN (L k) (G' k)) 3) (j : Nat) :
    (if j = k * 5 + 3 then v else nodesCell (midN L G k) j) = nodesCell (midN L G' (k + 1)) j := by
  obtain ⟨i, r, hr, e⟩ := five_cases j
  subst e
  rw [nodesCell_at _ _ _ hr, nodesCell_at _ _ _ hr]
  by_cases h1 : i * 5 + r = k * 5 + 3
  · have e1 : i = k := by omega
    have e2 : r = 3 := by omega
    subst e1 e2
    rw [if_pos rfl, hv]
    unfold midN
    rw [if_pos (by omega)]
  · rw [if_neg h1]
    by_cases h2 : i < k
    · have : midN L G k i = midN L G' (k + 1) i := by
        unfold midN
        rw [if_pos h2, if_pos (by omega)]
        by_cases hn : (L i).ao = none
        · unfold newN; simp [hn]
        · rw [hG i h2 hn]
      rw [this]
    · by_cases h3 : i = k
      · subst h3
        have hr3 : r ≠ 3 := by omega
        unfold midN newN
        rw [if_neg (by omega), if_pos (by omega)]
        match r, hr, hr3 with
        | 0, _, _ => rfl
        | 1, _, _ => rfl
        | 2, _, _ => rfl
        | 4, _, _ => rfl
      · have : midN L G k i = midN L G' (k + 1) i := by
          unfold midN
          rw [if_neg h2, if_neg (by omega)]
        rw [this]
end Go.Proofs.YtobgcaemnpkbmaaGreat
namespace Go.Proofs.YtobgcaemnpkbmaaGreat
open Go.RowKit
structure In (L : Nat → Nod) (n : Nat) : Prop where
  nil : ∀ i, i < n → (L i).ao = none → (L i).an = 0
  few : ∀ i, i < n → (L i).an * 32 ≤ 140737488351232
theorem nodes_src {w : World} {ao : Option Addr} {n : Nat} {L : Nat → Nod} (h : ListAt w ao n L) (h0 : 0 < n) : ∃ ad, ao = some ad ∧ ∀ j, j < n * 5 → w.cell? (ad.add j) = some (nodesCell L j) := by
  obtain ⟨b, o, e, h⟩ := h h0
  refine ⟨⟨b, o, none⟩, e, fun j hj => ?_⟩
  rw [addr_add]
  obtain ⟨i, r, hr, e⟩ := five_cases j
  subst e
  rw [nodesCell_at _ _ _ hr]
  obtain ⟨c0, c1, c2, c3, c4, _⟩ := h.node i (by omega)
  match r, hr with
  | 0, _ => exact c0
  | 1, _ => exact c1
  | 2, _ => exact c2
  | 3, _ => exact c3
  | 4, _ => exact c4
theorem if_if {α : Type} (p : Prop) [Decidable p] (a b c : α) : (if p then a else if p then b else c) = if p then a else c := by
  by_cases h : p
  · rw [if_pos h, if_pos h]
  · rw [if_neg h, if_neg h, if_neg h]
theorem lent_start {L : Nat → Nod} {G : Nat → Nat} {n : Nat} {f : Nat → Value} (j : Nat) : (if j < n * 5 then nodesCell (midN L G n) j else f j) = if j < n * 5 then nodesCell (lentN L G n) j else f j := by
  by_cases h : j < n * 5
  · rw [if_pos h, if_pos h]
    refine nodesCell_congr ?_
    unfold midN lentN
    rw [if_pos (by omega), if_pos (by omega)]
  · rw [if_neg h, if_neg h]
theorem lent_spare {L : Nat → Nod} {G : Nat → Nat} {k m r : Nat} (h : k ≤ m) (hr : r < 5) : nodesCell (lentN L G k) (m * 5 + r) = nodCell spareN r := by
  rw [nodesCell_at _ _ _ hr]; unfold lentN; rw [if_neg (by omega)]
theorem lent_step {L : Nat → Nod} {G : Nat → Nat} {k m : Nat} {f : Nat → Value} (h : k ≤ m) (j : Nat) :
    (if j = m * 5 + 4 then .string ⟨#[]⟩ else if j = m * 5 + 3 then .slice none 0 0 else if j = m * 5 + 2 then .int .i64 0 else if j = m * 5 + 1 then .string ⟨#[115, 112, 97, 114, 101]⟩ else if j = m * 5 then .int .i64 0 else if j < m * 5 then nodesCell (lentN L G k) j else f j)
      = if j < (m + 1) * 5 then nodesCell (lentN L G k) j else f j := by
  by_cases h4 : j = m * 5 + 4
  · rw [if_pos h4, if_pos (by omega), h4, lent_spare h (by omega)]; rfl
  rw [if_neg h4]
  by_cases h3 : j = m * 5 + 3
  · rw [if_pos h3, if_pos (by omega), h3, lent_spare h (by omega)]; rfl
  rw [if_neg h3]
  by_cases h2 : j = m * 5 + 2
  · rw [if_pos h2, if_pos (by omega), h2, lent_spare h (by omega)]; rfl
  rw [if_neg h2]
  by_cases h1 : j = m * 5 + 1
  · rw [if_pos h1, if_pos (by omega), h1, lent_spare h (by omega)]; rfl
  rw [if_neg h1]
  by_cases h0 : j = m * 5
  · rw [if_pos h0, if_pos (by omega), h0]; exact (lent_spare (r := 0) h (by omega)).symm
  rw [if_neg h0]
  by_cases hl : j < m * 5
  · rw [if_pos hl, if_pos (by omega)]
  · rw [if_neg hl, if_neg (by omega)]
theorem row_step {n k : Nat} {f g h : Nat → Value} {v : Value} (hk : k < n) (e : ∀ j, (if j = k * 5 + 3 then v else g j) = h j) (j : Nat) :
    (if j = k * 5 + 3 then v else if j < n * 5 then g j else f j) = if j < n * 5 then h j else f j := by
  rw [← e j]
  by_cases h1 : j = k * 5 + 3
  · rw [if_pos h1, if_pos (by omega), if_pos h1]
  · rw [if_neg h1, if_neg h1]
set_option maxRecDepth 100000 in
set_option maxHeartbeats 1000000 in
theorem nodes_any (ao : Option Addr) (n c : Nat) (L : Nat → Nod) (w : World) (hn : n * 72 ≤ 140737488351232) (h : ListAt w ao n L) (hin : In L n) :
    Calls Tryz.prog 9 #[.slice ao n c] w fun e w' => e = .returned (.slice (some ⟨w.heap.size, 0, none⟩) (n + 3) (n + 3)) ∧ Below w.heap.size w w' ∧
      ∃ G, w'.rowIs w.heap.size 33 ((n + 3) * 5) (nodesCell (lentN L G n)) ∧ RowsAt w' L G w.heap.size n := by
  obtain ⟨i0, hi, hz0, hz1, hz2⟩ := info_parts nodeInfo
  have H := hide h
  have HI := hide hin
  clear h hin
  have hnq : ∀ w a l c, (binOp .neq 31 (.slice a l c) (.slice none 0 0)).run Tryz.prog w = .ok (.bool a.isSome) w := fun w a l c => by
    have := run_neq_slice_nil_any (P := Tryz.prog) w 31 72 a l c 0 0 Tryz.underlying31
    simpa using this
  go_enter Tryz.func9, Tryz.ntmps9
  go_wp2_with (first | (refine wpList_make_rows rfl (.tmp 8) (.tmp 8) 24 rfl 33 i0 _ 5 72 Tryz.underlying24 hi hz0 hz1 hz2 .i64 .i64 _ (n + 3) rfl rfl (by omega) (by omega) (by omega) ?_; intro w1 f1 hr1 hs1 hb1) | (refine wpList_copy_rows rfl (.tmp 10) (.tmp 11) 24 24 rfl 33 Tryz.underlying24 5 nodeSize w.heap.size (n + 3) (n + 3) ao n c rfl rfl (by omega) 33 ((n + 3) * 5) f1 (unhide hr1) (nodesCell L) (nodes_src ((unhide H).below hb1)) (by omega) (fun j _ => nodCell_one _ _) w.heap.size w hb1 (Nat.le_refl _) ?_; intro w2 hr2 hs2 hb2))
  go_loopw [4] (fun i wr => ∃ (k : Nat) (G : Nat → Nat), k ≤ n ∧ i = .int .i64 k ∧ Hid (wr.rowIs w.heap.size 33 ((n + 3) * 5) (fun j => if j < n * 5 then nodesCell (midN L G k) j else f1 j)) ∧ Hid (RowsAt wr L G w.heap.size k) ∧ Below w.heap.size w wr) (fun i _ => n - (intOf i).toNat)
  case atStart => exact ⟨0, fun _ => 0, Nat.zero_le _, rfl, hr2, hide (RowsAt.zero _ _ _ _), hb2⟩
  case round =>
    obtain ⟨k, G, hk, rfl, hr, hR, hbel⟩ := hrel
    clear hr1 hr2 hb1 hb2 hs1 hs2
    by_cases hlt : k < n
    · obtain ⟨b, o, rfl, hL⟩ := H.out (by omega)
      have hbw := hL.lt
      have hNode := hL.node k hlt
      clear hL
      have d3 := (hbel.cell (p := ⟨b, o + k * 5 + 3, none⟩) hbw).trans hNode.c3
      obtain ⟨u0, hu0⟩ : ∃ u, wr.cell? ⟨w.heap.size, k * 5 + 3, none⟩ = some u := ⟨_, hr.out.cell (by omega)⟩
      have f0 := hr.out.frozen (k * 5 + 3)
      have hbne : b ≠ w.heap.size := by omega
      cases hao : (L k).ao with
      | none =>
        rw [hao] at d3
        have hN := HI.out.nil k hlt hao
        have HR := hide ((hr.out.set (k * 5 + 3) (.slice none 0 0)).congr fun j _ => row_step (n := n) (f := f1) hlt (midN_step (L := L) (G := G) (G' := G) (fun _ _ _ => rfl) (.slice none 0 0) (by rw [newN_nil hao hN]; rfl)) j)
        have HS := hide ((hR.out.setCell (k * 5 + 3) (.slice none 0 0)).skip hao)
        clear hr hR
        go_wp2
        go_roundw
        case rel => exact ⟨k + 1, G, by omega, by go_num, HR, HS, hbel.setCell (Nat.le_refl _) _⟩
        case measure => simp [intOf]; omega
      | some ad =>
        rw [hao] at d3
        have hne : (L k).ao ≠ none := by rw [hao]; simp
        have HAt := hide (hNode.ok.at'.below hbel)
        rw [hao] at HAt
        have hfew := HI.out.few k hlt
        have hrs := hr.out.set (k * 5 + 3) (.slice none 0 0)
        have hRs := hR.out.setCell (k * 5 + 3) (.slice none 0 0)
        have hbs := hbel.setCell (p := ⟨w.heap.size, k * 5 + 3, none⟩) (Nat.le_refl _) (.slice none 0 0)
        have hAs := hide (show AttrsAt (wr.setCell ⟨w.heap.size, k * 5 + 3, none⟩ (.slice none 0 0)) (some ad) (L k).an (L k).nm (L k).vl by
          rw [← hao]; exact hNode.ok.at'.below hbs)
        have e3 := (hbs.cell (p := ⟨b, o + k * 5 + 3, none⟩) hbw).trans hNode.c3
        rw [hao] at e3
        have H1 := hide hrs
        have H2 := hide hRs
        have hgw := hrs.lt
        clear hrs hRs hr hR HAt hNode
        go_wp2
        generalize wr.setCell ⟨w.heap.size, k * 5 + 3, none⟩ (.slice none 0 0) = ws at *
        clear d3 hu0 f0
        obtain ⟨u0, hu0⟩ : ∃ u, ws.cell? ⟨w.heap.size, k * 5 + 3, none⟩ = some u := ⟨_, H1.out.cell (by omega)⟩
        have f0 := H1.out.frozen (k * 5 + 3)
        have hbsz : b < ws.heap.size := Nat.lt_of_lt_of_le hbw hbs.size
        go_region_with ((go_at_call 21; refine (attrs_any (some ad) (L k).an (L k).ac (L k).nm (L k).vl _ hfew ((unhide hAs).below (Below.refl _ _).drew)).mono ?_; rintro e w5 ⟨rfl, hb5, hr5⟩; have e5 := (hb5.cell (p := ⟨b, o + k * 5 + 3, none⟩) hbsz).trans e3; have u5 := (hb5.cell (p := ⟨w.heap.size, k * 5 + 3, none⟩) hgw).trans hu0; have f5 := (hb5.frozen (p := ⟨w.heap.size, k * 5 + 3, none⟩) hgw).trans f0))
        all_goals
          have hb6 := (Below.refl ws.heap.size ws).drew.trans hb5
          have HR := hide ((((rowIs_below H1.out hb6 hgw).set (k * 5 + 3) (.slice (some ⟨ws.heap.size, 0, none⟩) (L k).an ((L k).an + 3)))).congr fun j _ => (if_if _ _ _ _).trans (row_step (n := n) (f := f1) hlt (midN_step (L := L) (G := G) (G' := fun i => if i = k then ws.heap.size else G i) (fun i hik _ => by simp only [show i ≠ k by omega, if_false]) (.slice (some ⟨ws.heap.size, 0, none⟩) (L k).an ((L k).an + 3)) (by simp only [if_true]; rw [newN_some hne]; rfl)) j))
          have HS := hide ((H2.out.more hgw hb6 hr5).setCell (k * 5 + 3) (.slice (some ⟨ws.heap.size, 0, none⟩) (L k).an ((L k).an + 3)))
          have HB := hide ((hbs.trans (hb6.mono hbs.size)).setCell (p := ⟨w.heap.size, k * 5 + 3, none⟩) (Nat.le_refl _) (.slice (some ⟨ws.heap.size, 0, none⟩) (L k).an ((L k).an + 3)))
          clear H1 H2 hb6 hb5 hr5
          go_wp2
          go_roundw
          case rel => exact ⟨k + 1, _, by omega, by go_num, HR, HS, HB.out⟩
          case measure => simp [intOf]; omega
    · have hkn : k = n := by omega
      subst hkn
      have HL1 := hide ((hr.out).congr (fun j _ => lent_start (f := f1) j))
      clear hr
      go_wp2
      go_loopw [5] (fun i wr => ∃ m : Nat, k ≤ m ∧ m ≤ k + 3 ∧ i = .int .i64 m ∧ Hid (wr.rowIs w.heap.size 33 ((k + 3) * 5) (fun j => if j < m * 5 then nodesCell (lentN L G k) j else f1 j)) ∧ Hid (RowsAt wr L G w.heap.size k) ∧ Below w.heap.size w wr) (fun i _ => k + 3 - (intOf i).toNat)
      case atStart => exact ⟨k, Nat.le_refl _, by omega, rfl, HL1, hR, hbel⟩
      case round =>
        obtain ⟨m, hm1, hm2, rfl, hr, hR, hbel⟩ := hrel
        by_cases hmt : m < k + 3
        · obtain ⟨u0, hu0⟩ : ∃ u, wr.cell? ⟨w.heap.size, m * 5, none⟩ = some u := ⟨_, hr.out.cell (by omega)⟩
          obtain ⟨u1, hu1⟩ : ∃ u, wr.cell? ⟨w.heap.size, m * 5 + 1, none⟩ = some u := ⟨_, hr.out.cell (by omega)⟩
          obtain ⟨u2, hu2⟩ : ∃ u, wr.cell? ⟨w.heap.size, m * 5 + 2, none⟩ = some u := ⟨_, hr.out.cell (by omega)⟩
          obtain ⟨u3, hu3⟩ : ∃ u, wr.cell? ⟨w.heap.size, m * 5 + 3, none⟩ = some u := ⟨_, hr.out.cell (by omega)⟩
          obtain ⟨u4, hu4⟩ : ∃ u, wr.cell? ⟨w.heap.size, m * 5 + 4, none⟩ = some u := ⟨_, hr.out.cell (by omega)⟩
          have f0 := hr.out.frozen (m * 5)
          have f1' := hr.out.frozen (m * 5 + 1)
          have f2 := hr.out.frozen (m * 5 + 2)
          have f3 := hr.out.frozen (m * 5 + 3)
          have f4 := hr.out.frozen (m * 5 + 4)
          go_wp2
          go_roundw
          case rel => exact ⟨m + 1, by omega, by omega, by go_num, hide ((((((hr.out.set _ _).set _ _).set _ _).set _ _).set _ _).congr fun j _ => lent_step hm1 j), hide (((((hR.out.setCell _ _).setCell _ _).setCell _ _).setCell _ _).setCell _ _), ((((hbel.setCell (Nat.le_refl _) _).setCell (Nat.le_refl _) _).setCell (Nat.le_refl _) _).setCell (Nat.le_refl _) _).setCell (Nat.le_refl _) _⟩
          case measure => simp [intOf]; omega
        · go_wp2
          go_ret
          refine ⟨rfl, hbel, G, hr.out.congr fun j hj => ?_, hR.out⟩
          rw [if_pos (by omega)]
end Go.Proofs.YtobgcaemnpkbmaaGreat
