/- Ins Row Mp Theo -/
import Derived.Test.YtobgcaemnpkbmaaGreatD05
import Derived.Test.YtobgcaemnpkbmaaGreatD03
import Derived.Shelf.Spec.SlicesInsert
import Derived.Lib.AppendZerosOnto
import Derived.Laws.NewBlocks
import Derived.Maps.OwnSet
import Derived.Maps.OwnOps
namespace Go.Proofs.YtobgcaemnpkbmaaGreat
open Go.RowKit
def andNew (S : Nat → Prop) (w w' : World) : Nat → Prop := fun b => S b ∨ (w.heap.size ≤ b ∧ b < w'.heap.size)
theorem refInfo : (Tryz.prog.info? 91).map (fun i => (i.zero, i.size, i.bytes)) = some (some (.agg #[.int .i64 0, .int .i64 0, .string ⟨#[]⟩, .int .i64 0, .slice none 0 0, .string ⟨#[]⟩]), 6, 80) := by kernel_rfl
theorem RN.cells_one (n : RN) : ∀ u ∈ n.cells, u.oneCell' = true := by
  intro u hu; simp [RN.cells] at hu; rcases hu with rfl | rfl | rfl | rfl | rfl | rfl <;> rfl
theorem rowOf_snoc (R : List RN) (n : RN) : rowOf (R ++ [n]) = rowOf R ++ n.cells := by rw [rowOf_append, rowOf_one]
theorem RefAt.relaid {S : Nat → Prop} {w w1 : World} {p : Nat} {R R' : List RN} {last : Int} {v q : Value} (h : RefAt S w p R last v) (hb : Below w.heap.size w w1) (ho : w1.ownsRow w.heap.size 91 6 q R'.length (rowOf R'))
    (hf : R'.length ≤ 800) (hR : ∀ n, n ∈ R' → n.Ok S w ∧ ∀ ad, n.ao = some ad → ad.block ≠ p) :
    RefAt (andNew S w (w1.setCell ⟨p, 0, none⟩ q)) (w1.setCell ⟨p, 0, none⟩ q) p R' last q ∧ Touch (fun b => b = p) w (w1.setCell ⟨p, 0, none⟩ q) := by
  have hp := h.lt
  have hp1 : p < w1.heap.size := Nat.lt_of_lt_of_le hp hb.size
  have h0 := (hb.cell (p := ⟨p, 0, none⟩) hp).trans h.c0
  have h1 := (hb.cell (p := ⟨p, 1, none⟩) hp).trans h.c1
  have h2 := (hb.cell (p := ⟨p, 2, none⟩) hp).trans h.c2
  have hf0 := (hb.frozen (p := ⟨p, 0, none⟩) hp).trans h.f0
  have hf2 := (hb.frozen (p := ⟨p, 2, none⟩) hp).trans h.f2
  have hqp : q.ownBlock = none ∨ q.ownBlock ≠ some p := by
    refine .inr fun e => ?_
    have := (ho.lt p e).1
    omega
  refine ⟨⟨.inl h.sp, ?_, ?_, ?_, ?_, ?_, own_ge (own_set ho hqp) (Nat.zero_le _), ?_, hf, ?_, ?_⟩, ?_⟩
  · simp [go_sem, h0]
  · simp [go_sem, h1]
  · simp [go_sem, h2]
  · simp [go_sem, hf0]
  · simp [go_sem, hf2]
  · intro g hg
    have := ho.lt g hg
    exact ⟨.inr ⟨this.1, by rw [size_setCell']; exact this.2⟩, by omega⟩
  · intro n hn
    obtain ⟨ok, hnp⟩ := hR n hn
    refine ⟨ok.an, ok.few, ok.nil, ok.tag, ok.text, ?_, fun ad e => ⟨.inl (ok.own ad e).1, by rw [size_setCell']; exact Nat.lt_of_lt_of_le (ok.own ad e).2 hb.size⟩⟩
    intro j hj
    obtain ⟨b, o, e, hbw, c0, c1, s0, s1⟩ := ok.at'.below hb j hj
    have hbp : b ≠ p := hnp _ e
    refine ⟨b, o, e, by rw [size_setCell']; exact hbw, ?_, ?_, s0, s1⟩
    · rw [World.cell?_of_block (Below.heap_setCell w1 ⟨p, 0, none⟩ q b hbp)]; exact c0
    · rw [World.cell?_of_block (Below.heap_setCell w1 ⟨p, 0, none⟩ q b hbp)]; exact c1
  · intro n hn ad e
    obtain ⟨ok, hnp⟩ := hR n hn
    refine ⟨hnp ad e, fun e2 => ?_⟩
    have h1 := (ho.lt ad.block e2.symm).1
    have h2 := (ok.own ad e).2
    omega
  · exact ⟨hb.os, hb.tape, hb.output, by rw [size_setCell']; exact hb.size, fun k hk hn => (Below.heap_setCell w1 ⟨p, 0, none⟩ q k hn).trans (hb.block k hk)⟩
def insTo (R : List RN) (n : RN) (fr : Nat) (bf : Int) : Nat → List RN
  | 0 => []
  | k + 1 => insTo R n fr bf k ++ (if bf ≠ 0 ∧ idAt R k = bf then [n] else []) ++ (if k = fr then [] else (R.drop k).take 1)
def insP (R : List RN) (n : RN) (fr : Nat) (bf : Int) : List RN := insTo R n fr bf R.length ++ (if bf = 0 then [n] else [])
theorem insTo_length (R : List RN) (n : RN) (fr : Nat) (bf : Int) : ∀ k, (insTo R n fr bf k).length ≤ 2 * k := by
  intro k
  induction k with
  | zero => exact Nat.le_refl _
  | succ k ih =>
    rw [insTo, List.length_append, List.length_append]
    have h1 : (if bf ≠ 0 ∧ idAt R k = bf then [n] else []).length ≤ 1 := by split <;> simp
    have h2 : (if k = fr then [] else (R.drop k).take 1).length ≤ 1 := by split <;> simp; omega
    omega
theorem drop_one {R : List RN} {k : Nat} (h : k < R.length) : (R.drop k).take 1 = [R[k]] := by
  rw [List.drop_eq_getElem_cons h]; rfl
def RowAt (w : World) (B : Nat) (v : Value) (R : List RN) : Prop := w.ownsRow B 91 6 v R.length (rowOf R)
theorem RowAt.of_app {w : World} {B : Nat} {v : Value} {R : List RN} {n : RN} {xs : List Value} (h : w.ownsRow B 91 6 v (R.length + 1) (rowOf R ++ xs)) (hx : n.cells = xs) : RowAt w B v (R ++ [n]) := by
  subst hx; unfold RowAt; rw [rowOf_snoc, List.length_append]; exact h
end Go.Proofs.YtobgcaemnpkbmaaGreat
namespace Go.Proofs.YtobgcaemnpkbmaaGreat
open Go.RowKit
theorem nodePtrInfo : (Tryz.prog.info? 112).map (fun i => (i.zero, i.size, i.bytes)) = some (some (.pointer none), 1, 8) := by kernel_rfl
def layL (xs : List Value) : Nat → List Value → List Value
  | _, [] => xs
  | o, v :: r => layL (xs.set o v) (o + 1) r
theorem layL_length (xs : List Value) : ∀ (vs : List Value) (o : Nat), (layL xs o vs).length = xs.length := by
  intro vs
  induction vs generalizing xs with
  | nil => intro o; rfl
  | cons v r ih => intro o; rw [layL, ih, List.length_set]
theorem layL_eq (xs : List Value) : ∀ (vs : List Value) (o : Nat), o + vs.length ≤ xs.length → layL xs o vs = xs.take o ++ vs ++ xs.drop (o + vs.length) := by
  intro vs
  induction vs generalizing xs with
  | nil => intro o _; simp [layL]
  | cons v r ih =>
    intro o ho
    rw [List.length_cons] at ho
    rw [layL, ih _ (o + 1) (by rw [List.length_set]; omega)]
    have e1 : (xs.set o v).take (o + 1) = xs.take o ++ [v] := by
      rw [List.take_add_one, List.getElem?_set, if_pos rfl, if_pos (by omega), List.take_set_of_le (Nat.le_refl _)]
      rfl
    have e2 : (xs.set o v).drop (o + 1 + r.length) = xs.drop (o + (v :: r).length) := by
      rw [List.drop_set_of_lt (by omega), List.length_cons]
      congr 1
      omega
    rw [e1, e2]
    simp
theorem ins_list (xs ys u : List Value) (a s : Nat) (ha : a ≤ xs.length) (hu : u.length = s) (hy : ys.length = s) : layL (layL (xs ++ ys) (a + s) (xs.drop a)) a u = xs.take a ++ u ++ xs.drop a := by
  have hl : (xs ++ ys).length = xs.length + s := by rw [List.length_append, hy]
  have hd : (xs.drop a).length = xs.length - a := List.length_drop
  have e1 : (xs ++ ys).drop (a + s + (xs.drop a).length) = [] := List.drop_of_length_le (by omega)
  have e2 : layL (xs ++ ys) (a + s) (xs.drop a) = (xs ++ ys).take (a + s) ++ xs.drop a := by rw [layL_eq _ _ _ (by omega), e1, List.append_nil]
  have ht : ((xs ++ ys).take (a + s)).length = a + s := by rw [List.length_take]; omega
  rw [e2, layL_eq _ _ _ (by rw [List.length_append]; omega), hu]
  have e3 : ((xs ++ ys).take (a + s) ++ xs.drop a).take a = xs.take a := by
    rw [List.take_append_of_le_length (by omega), List.take_take, Nat.min_eq_left (by omega), List.take_append_of_le_length ha]
  have e4 : ((xs ++ ys).take (a + s) ++ xs.drop a).drop (a + s) = xs.drop a := by
    have := List.drop_left (l₁ := (xs ++ ys).take (a + s)) (l₂ := xs.drop a)
    rwa [ht] at this
  rw [e3, e4]
theorem own_setCells {B : Nat} {e : TypeId} {size g n c : Nat} : ∀ (vs : List Value) (o : Nat) {w : World} {xs : List Value}, w.ownsRow B e size (.slice (some ⟨g, 0, none⟩) n c) n xs → (w.setCells g o vs).ownsRow B e size (.slice (some ⟨g, 0, none⟩) n c) n (layL xs o vs) := by
  intro vs
  induction vs with
  | nil => intro o w xs h; exact h
  | cons v r ih => intro o w xs h; exact ih (o + 1) (h.stored o v).1
theorem own_cut {w : World} {B : Nat} {e : TypeId} {size g n c m : Nat} {xs : List Value} (h : w.ownsRow B e size (.slice (some ⟨g, 0, none⟩) n c) n xs) (hm : m ≤ n) : w.ownsRow B e size (.slice (some ⟨g, 0, none⟩) m c) m (xs.take (m * size)) := by
  have hl := h.1
  have hms : m * size ≤ n * size := Nat.mul_le_mul_right size hm
  refine ⟨by rw [List.length_take]; omega, .inr ?_⟩
  rcases h.2 with ⟨e, _⟩ | ⟨g', cap, cur, e, hb, hg, hnc, hcm, hcs, ht⟩
  · simp at e
  · simp only [Value.slice.injEq] at e
    obtain ⟨e1, _, rfl⟩ := e
    cases e1
    refine ⟨g, c, cur, rfl, hb, hg, by omega, hcm, hcs, ?_⟩
    rw [← ht, List.take_take, Nat.min_eq_left hms]
theorem own_more {w : World} {B : Nat} {e : TypeId} {size g n c m : Nat} {xs : List Value} (h : w.ownsRow B e size (.slice (some ⟨g, 0, none⟩) n c) n xs) (hm : n ≤ m) (hc : m ≤ c) : ∃ ys, ys.length = (m - n) * size ∧ w.ownsRow B e size (.slice (some ⟨g, 0, none⟩) m c) m (xs ++ ys) := by
  have hl := h.1
  rcases h.2 with ⟨e, _⟩ | ⟨g', cap, cur, e, hb, hg, hnc, hcm, hcs, ht⟩
  · simp at e
  · simp only [Value.slice.injEq] at e
    obtain ⟨e1, _, rfl⟩ := e
    cases e1
    have hms : n * size ≤ m * size := Nat.mul_le_mul_right size hm
    have hmc : m * size ≤ c * size := Nat.mul_le_mul_right size hc
    have hcl : cur.toList.length = cur.size := Array.length_toList
    refine ⟨(cur.toList.take (m * size)).drop (n * size), by rw [List.length_drop, List.length_take, hcl, hcs, Nat.min_eq_left hmc, Nat.sub_mul], ?_, .inr ⟨g, c, cur, rfl, hb, hg, hc, hcm, hcs, ?_⟩⟩
    · rw [List.length_append, List.length_drop, List.length_take, hcl, hcs, Nat.min_eq_left hmc, hl]; omega
    · rw [← ht]
      have : cur.toList.take (n * size) = (cur.toList.take (m * size)).take (n * size) := by rw [List.take_take, Nat.min_eq_left hms]
      rw [this, List.take_append_drop]
theorem own_plain {w : World} {B : Nat} {e : TypeId} {size g n c : Nat} {xs : List Value} (h : w.ownsRow B e size (.slice (some ⟨g, 0, none⟩) n c) n xs) : ∃ cur, w.heap[g]? = some (.cells cur e (0, 0)) ∧ cur.size = c * size ∧ n ≤ c ∧ c ≤ maxLen := by
  rcases h.2 with ⟨e, _⟩ | ⟨g', cap, cur, e, hb, hg, hnc, hcm, hcs, ht⟩
  · simp at e
  · simp only [Value.slice.injEq] at e
    obtain ⟨e1, _, rfl⟩ := e
    cases e1
    exact ⟨cur, hg, hcs, hnc, hcm⟩
theorem setCells_grown (b : Nat) : ∀ (vs : List Value) (o : Nat) (w : World), w.grownBy (w.setCells b o vs) (some b) ∧ (w.setCells b o vs).heap.size = w.heap.size := by
  intro vs
  induction vs with
  | nil => intro o w; exact ⟨⟨rfl, rfl, rfl, Nat.le_refl _, fun _ _ _ => rfl⟩, rfl⟩
  | cons v r ih =>
    intro o w
    obtain ⟨h, hs⟩ := ih (o + 1) (w.setCell ⟨b, o, none⟩ v)
    have hz : (w.setCell ⟨b, o, none⟩ v).heap.size = w.heap.size := size_setCell' _ _ _
    refine ⟨⟨h.os, h.tape, h.output, by rw [World.setCells, hs, hz]; exact Nat.le_refl _, fun k hk hn => ?_⟩, by rw [World.setCells, hs, hz]⟩
    exact (h.block k (by rw [hz]; exact hk) hn).trans (Below.heap_setCell w ⟨b, o, none⟩ v k (fun e => hn (by rw [e])))
theorem heap_setCells_drew (b o : Nat) (vs : List Value) (w : World) : (w.drew.setCells b o vs).heap = (w.setCells b o vs).heap := by
  rw [← drew_setCells]
  rfl
theorem own_heap {w w' : World} {base : Nat} {e : TypeId} {size : Nat} {v : Value} {n : Nat} {xs : List Value} (h : w.ownsRow base e size v n xs) (hb : ∀ b, v.ownBlock = some b → w'.heap[b]? = w.heap[b]?) : w'.ownsRow base e size v n xs := by
  refine ⟨h.1, ?_⟩
  rcases h.2 with hn | ⟨g, cap, cur, rfl, hg, hgg, rest⟩
  · exact .inl hn
  · exact .inr ⟨g, cap, cur, rfl, hg, (hb g rfl).trans hgg, rest⟩
theorem run_copy_cellsK {P : Program} (w : World) (dT sT ty elem : TypeId) (size : Nat) (b o dLen dCap : Nat) (a : Addr) (sLen sCap : Nat) (cs : List Value)
    (hu : P.underlying dT = some (.slice elem)) (hs : (P.info? elem).map (·.size) = some size) (hn : cs.length = Nat.min sLen dLen * size)
    (hsrc : ∀ j v, cs[j]? = some v → w.cell? (a.add j) = some v) (hc : ∀ j, j < cs.length → (w.cell? ⟨b, o + j, none⟩).isSome = true) (hf : ∀ j, j < cs.length → w.frozen? ⟨b, o + j, none⟩ = false) (h1 : ∀ v ∈ cs, v.oneCell' = true) :
    (Builtin.copy_ #[dT, sT] ty #[.slice (some ⟨b, o, none⟩) dLen dCap, .slice (some a) sLen sCap]).run P w = .ok (goInt (Nat.min sLen dLen)) (w.setCells b o cs) := by
  have hl := run_loadCells_list (P := P) w a cs hsrc
  have hst := run_storeCells_cells (P := P) b o cs 0 w (by simpa using hc) (by simpa using hf) h1
  cases hq : P.info? elem with
  | none => simp [hq] at hs
  | some i =>
    have hi : i.size = size := by simpa [hq] using hs
    rw [hn] at hl
    simp [Builtin.copy_, run_underlying hu, Builtin.lenOf, Builtin.firstCells, sizeOf, typeInfo, hq, hi, hl, hst]
theorem run_clear_one {P : Program} (w : World) (t e ty : TypeId) (z : Value) (zs : List Value) (ht : P.underlying t = some (.slice e)) (hv : ∀ w, (zeroValue e).run P w = .ok z w) (hz : z.cells = zs.toArray) (_h0 : 0 < zs.length) (h1 : ∀ v ∈ zs, v.oneCell' = true) (b o c : Nat)
    (hc : ∀ j, j < zs.length → (w.cell? ⟨b, o + j, none⟩).isSome = true) (hf : ∀ j, j < zs.length → w.frozen? ⟨b, o + j, none⟩ = false) :
    (Builtin.clear_ #[t] ty #[.slice (some ⟨b, o, none⟩) 1 c]).run P w = .ok (.tuple #[]) (w.setCells b o zs) := by
  have hzc : (Builtin.zeroCells z.cells 1).toList = zs := by
    rw [hz]
    simp only [Builtin.zeroCells, Nat.one_mul, List.size_toArray]
    apply List.ext_getElem
    · simp
    · intro i h1 h2
      simp only [Array.toList_map, Array.toList_range, List.getElem_map, List.getElem_range]
      rw [Nat.mod_eq_of_lt h2, getElem!_pos zs.toArray i (by simpa using h2)]
      simp
  have hst := run_storeCells_cells (P := P) b o zs 0 w (by simpa using hc) (by simpa using hf) h1
  simp only [Nat.add_zero] at hst
  simp [Builtin.clear_, run_underlying ht, hv, hzc, hst]
end Go.Proofs.YtobgcaemnpkbmaaGreat
namespace Go.Proofs.YtobgcaemnpkbmaaGreat
open Go.RowKit
open Go.Maps (Keyed int_keyed keyOf_int_mk)
theorem intKeyed : Keyed Tryz.prog 3 := int_keyed Tryz.underlying3
def heldElem (v : Value) : Option (DataW Value × List MemPlace) := some (.held v, [])
def ptrOpt (x : Option Nat) : Value := .pointer (x.map fun b => ⟨b, 0, none⟩)
def I64 (i : Int) : Prop := -9223372036854775808 ≤ i ∧ i ≤ 9223372036854775807
theorem wf_of {i : Int} (h : I64 i) : (Lit.int .i64 i).wf = true := by
  obtain ⟨h1, h2⟩ := h
  have e1 : IntKind.i64.min = -9223372036854775808 := rfl
  have e2 : IntKind.i64.max = 9223372036854775807 := rfl
  simp [Lit.wf, e1, e2]
  omega
def MapAt (w : World) (mb : Nat) (f : Int → Option Nat) (N : Nat) : Prop :=
  ∃ D : DataW Value, w.ownsMap Tryz.prog 3 heldElem mb N D ∧ Go.Maps.size D = N ∧ ∀ i, I64 i → Go.Maps.has D (.int .i64 i) = (f i).isSome ∧ D.atKey (.int .i64 i) (.held (.pointer none)) = .held (ptrOpt (f i))
theorem MapAt.heap {w w' : World} {mb : Nat} {f : Int → Option Nat} {N : Nat} (h : MapAt w mb f N) (hb : w'.heap[mb]? = w.heap[mb]?) : MapAt w' mb f N := by
  obtain ⟨D, ⟨es, clock, h1, h2⟩, hs, hf⟩ := h
  exact ⟨D, ⟨es, clock, hb.trans h1, h2⟩, hs, hf⟩
theorem MapAt.lt {w : World} {mb : Nat} {f : Int → Option Nat} {N : Nat} (h : MapAt w mb f N) : mb < w.heap.size := by obtain ⟨D, h, _⟩ := h; exact h.lt
theorem MapAt.made (w : World) : MapAt (w.alloc (.map #[] 0)) w.heap.size (fun _ => none) 0 :=
  ⟨.map [], World.ownsMap_made w _ _ _, rfl, fun _i _ => ⟨rfl, rfl⟩⟩
theorem MapAt.look {w : World} {mb : Nat} {f : Int → Option Nat} {N : Nat} (h : MapAt w mb f N) {i : Int} (hi : I64 i) : (Instr.lookup 111 (.map (some mb)) (.int .i64 i) false).run Tryz.prog w = .ok (ptrOpt (f i)) w := by
  obtain ⟨D, hD, _, hf⟩ := h
  obtain ⟨v, ps, hr, hv⟩ := hD.lookup intKeyed Tryz.underlying111 (Tryz.zeroValue112 w) (zd := .held (.pointer none)) (zp := []) rfl (keyOf_int_mk Tryz.underlying3 (wf_of hi))
  rw [(hf i hi).2] at hv
  unfold heldElem at hv
  simp at hv
  rw [hr, hv.1]
theorem MapAt.len {w : World} {mb : Nat} {f : Int → Option Nat} {N : Nat} (h : MapAt w mb f N) (ty : TypeId) : (Builtin.len_ #[111] ty #[.map (some mb)]).run Tryz.prog w = .ok (.int .i64 N) w := by
  obtain ⟨D, hD, hs, _⟩ := h
  rw [hD.len Tryz.underlying111 ty, hs]
theorem ownsMap_exact {w : World} {mb n : Nat} {D : DataW Value} (h : w.ownsMap Tryz.prog 3 heldElem mb n D) : w.ownsMap Tryz.prog 3 heldElem mb (Go.Maps.size D) D := by
  obtain ⟨es, clock, hb, F, hs, rfl⟩ := h
  refine ⟨es, clock, hb, F, ?_, rfl⟩
  simp [Go.Maps.size, length_sorted]
theorem wpList_map_put {mb : Nat} {f : Int → Option Nat} {N : Nat} (w : World) {ops : Array Oper} {rest : List Oper} {o : Oper} {a : Act} {Q : Exit → Act → World → Prop}
    (hg : o.guard = none) (m x v : Operand) (hop : o.op = Op.mapUpdate 111 m x v) (hm : a.eval m = .map (some mb)) (h : MapAt w mb f N) (hN : N < maxLen) (i : Int) (b : Nat) (hi : I64 i) (hx : a.eval x = .int .i64 i) (hv : a.eval v = .pointer (some ⟨b, 0, none⟩)) (hn : f i = none)
    (hK : ∀ w', Hid (MapAt w' mb (fun j => if j = i then some b else f j) (N + 1)) → Hid (w.grownBy w' (some mb)) → w'.heap.size = w.heap.size → wpList Tryz.prog ops Q rest (a.put o.dst undef) w') : wpList Tryz.prog ops Q (o :: rest) a w := by
  obtain ⟨D, hD, hs, hf⟩ := h
  refine wpList_mapUpdate_in w hg m x v _ hop 3 112 intKeyed Tryz.underlying111 heldElem mb N D hm hD hN _ _ (.int .i64 i) hx hv (keyOf_int_mk Tryz.underlying3 (wf_of hi)) (.held (.pointer (some ⟨b, 0, none⟩))) [] rfl ?_
  intro w' hown hturn
  have hg := hturn.grown
  have hsz : w'.heap.size = w.heap.size := by
    obtain ⟨es, cl, es', cl', _, rfl⟩ := hturn
    simp [Go.ChangeMaps.setBlock]
  have hsize : Go.Maps.size (D.put (.int .i64 i) (.held (.pointer (some ⟨b, 0, none⟩)))) = N + 1 := by
    rw [Go.Maps.size_put (hD.tidy intKeyed), (hf i hi).1, hn, hs]; rfl
  refine hK w' (hide ⟨_, by have := ownsMap_exact hown; rwa [hsize] at this, hsize, fun j hj => ?_⟩) (hide hg) hsz
  simp only []
  by_cases e : j = i
  · subst e
    rw [if_pos rfl, Go.Maps.has_put_same (k := .int .i64 j) hD.isMap trivial, Go.Maps.atKey_put_same (k := .int .i64 j) hD.isMap trivial]
    exact ⟨rfl, rfl⟩
  · rw [if_neg e, Go.Maps.has_put_other (by simpa using e), Go.Maps.atKey_put_other (by simpa using e)]
    exact hf j hj
theorem wpList_map_del {mb : Nat} {f : Int → Option Nat} {N : Nat} (w : World) {ops : Array Oper} {rest : List Oper} {o : Oper} {a : Act} {Q : Exit → Act → World → Prop}
    (hg : o.guard = none) (m x : Operand) (hop : o.op = Op.call { callee := Callee.builtin Builtin.delete, args := #[m, x], argTypes := #[111, 3] }) (hm : a.eval m = .map (some mb)) (h : MapAt w mb f N) (i : Int) (hi : I64 i) (hx : a.eval x = .int .i64 i) (hn : (f i).isSome = true)
    (hK : ∀ w', Hid (MapAt w' mb (fun j => if j = i then none else f j) (N - 1)) → Hid (w.grownBy w' (some mb)) → w'.heap.size = w.heap.size → wpList Tryz.prog ops Q rest (a.put o.dst (.tuple #[])) w') : wpList Tryz.prog ops Q (o :: rest) a w := by
  obtain ⟨D, hD, hs, hf⟩ := h
  refine wpList_delete_own w hg m x _ _ hop 112 intKeyed Tryz.underlying111 heldElem mb N D hm hD _ (.int .i64 i) hx (keyOf_int_mk Tryz.underlying3 (wf_of hi)) ?_
  intro w' hown hturn
  have hg := hturn.grown
  have hsz : w'.heap.size = w.heap.size := by
    obtain ⟨es, cl, es', cl', _, rfl⟩ := hturn
    simp [Go.ChangeMaps.setBlock]
  have hsize : Go.Maps.size (D.del (.int .i64 i)) = N - 1 := by
    have := Go.Maps.size_del (k := .int .i64 i) (hD.tidy intKeyed)
    rw [(hf i hi).1, hn, hs] at this
    simp at this
    omega
  refine hK w' (hide ⟨_, by have := ownsMap_exact hown; rwa [hsize] at this, hsize, fun j hj => ?_⟩) (hide hg) hsz
  simp only []
  by_cases e : j = i
  · subst e
    rw [if_pos rfl, Go.Maps.has_del_same, Go.Maps.atKey_del_same]
    exact ⟨rfl, rfl⟩
  · rw [if_neg e, Go.Maps.has_del_other (by simpa using e), Go.Maps.atKey_del_other (by simpa using e)]
    exact hf j hj
end Go.Proofs.YtobgcaemnpkbmaaGreat
namespace Go.Proofs.YtobgcaemnpkbmaaGreat
open Go.RowKit
structure Ids (R : List RN) : Prop where
  pos : ∀ n, n ∈ R → 0 < n.id
  inj : ∀ i j, (hi : i < R.length) → (hj : j < R.length) → R[i].id = R[j].id → i = j
theorem kidsTo_mem {R : List RN} {id : Int} {k i : Nat} : i ∈ kidsTo R id k ↔ i < k ∧ parAt R i = id := by
  unfold kidsTo; rw [List.mem_filter, List.mem_range]; simp
theorem kidsP_mem {R : List RN} {id : Int} {i : Nat} (h : i ∈ kidsP R id) : i < R.length ∧ parAt R i = id ∧ id ≠ 0 := by
  unfold kidsP at h
  split at h
  · simp at h
  · next h0 => exact ⟨(kidsTo_mem.1 h).1, (kidsTo_mem.1 h).2, h0⟩
theorem kid_rank {R : List RN} {rk : Int → Nat} (hU : Up R rk) {a i : Nat} (h : i ∈ kidsP R (idAt R a)) : rk (idAt R a) < rk (idAt R i) := by
  obtain ⟨hi, hp, h0⟩ := kidsP_mem h
  rw [idAt_lt hi]
  rw [parAt_lt hi] at hp
  have := hU.rank R[i] (List.getElem_mem hi) (by rw [hp]; exact h0)
  rwa [hp] at this
def above (R : List RN) (rk : Int → Nat) (r : Nat) : Nat := R.countP fun n => decide (r < rk n.id)
theorem above_lt {R : List RN} {rk : Int → Nat} {r s : Nat} (hrs : r < s) {n : RN} (hn : n ∈ R) (hs : rk n.id = s) : above R rk s < above R rk r := by
  unfold above
  induction R with
  | nil => simp at hn
  | cons x R ih =>
    rw [List.countP_cons, List.countP_cons]
    have hle : R.countP (fun n => decide (s < rk n.id)) ≤ R.countP (fun n => decide (r < rk n.id)) := by
      apply List.countP_mono_left
      intro y _ hy
      simp at hy ⊢
      omega
    rcases List.mem_cons.1 hn with rfl | hn
    · have e1 : decide (s < rk n.id) = false := by simp; omega
      have e2 : decide (r < rk n.id) = true := by simp; omega
      rw [e1, e2]
      simp
      omega
    · have := ih hn
      by_cases h1 : s < rk x.id
      · have e1 : decide (s < rk x.id) = true := by simp [h1]
        have e2 : decide (r < rk x.id) = true := by simp; omega
        rw [e1, e2]
        simp
        omega
      · have e1 : decide (s < rk x.id) = false := by simp; omega
        rw [e1]
        simp
        omega
theorem fitP_mono {R : List RN} : ∀ {f a : Nat}, fitP R f a → fitP R (f + 1) a := by
  intro f
  induction f with
  | zero => intro a h; exact absurd h (by simp [fitP])
  | succ f ih => intro a h; exact ⟨h.1, fun k hk => ih (h.2 k hk)⟩
theorem fitP_le {R : List RN} {f g a : Nat} (h : fitP R f a) (hfg : f ≤ g) : fitP R g a := by
  induction hfg with
  | refl => exact h
  | step _ ih => exact fitP_mono ih
theorem fitP_above {R : List RN} {rk : Int → Nat} (hU : Up R rk) : ∀ (m a : Nat), a < R.length → above R rk (rk (idAt R a)) ≤ m → fitP R (m + 1) a := by
  intro m
  induction m with
  | zero =>
    intro a ha h
    refine ⟨ha, fun k hk => ?_⟩
    have hr := kid_rank hU hk
    have hk' := (kidsP_mem hk).1
    have := above_lt (R := R) (rk := rk) hr (List.getElem_mem hk') (by rw [idAt_lt hk'])
    omega
  | succ m ih =>
    intro a ha h
    refine ⟨ha, fun k hk => ?_⟩
    have hr := kid_rank hU hk
    have hk' := (kidsP_mem hk).1
    have := above_lt (R := R) (rk := rk) hr (List.getElem_mem hk') (by rw [idAt_lt hk'])
    exact ih k hk' (by omega)
theorem fitP_all {R : List RN} {rk : Int → Nat} (hU : Up R rk) {a : Nat} (ha : a < R.length) : fitP R R.length a := by
  have h1 : above R rk (rk (idAt R a)) < R.length := by
    have hz := above_lt (R := R) (rk := fun x => rk x + 1) (r := 0) (s := rk (idAt R a) + 1) (by omega) (List.getElem_mem ha) (by rw [idAt_lt ha])
    have h2 : above R (fun x => rk x + 1) (rk (idAt R a) + 1) = above R rk (rk (idAt R a)) := by
      unfold above
      congr 1
      funext n
      simp
    have h3 : above R (fun x => rk x + 1) 0 ≤ R.length := List.countP_le_length
    omega
  exact fitP_le (fitP_above hU (R.length - 1) a ha (by omega)) (by omega)
def upP (R : List RN) (x : Int) : Int := if x = 0 then 0 else parOf R x
def upN (R : List RN) : Nat → Int → Int
  | 0, x => x
  | m + 1, x => upN R m (upP R x)
theorem upN_zero (R : List RN) (m : Nat) : upN R m 0 = 0 := by
  induction m with
  | zero => rfl
  | succ m ih => rw [upN]; have : upP R 0 = 0 := by unfold upP; rw [if_pos rfl]
                 rw [this]; exact ih
theorem upN_add (R : List RN) (m k : Nat) (x : Int) : upN R (m + k) x = upN R k (upN R m x) := by
  induction m generalizing x with
  | zero => rw [Nat.zero_add]; rfl
  | succ m ih => rw [Nat.succ_add, upN, upN, ih]
theorem atP_id {R : List RN} (hI : Ids R) {i : Nat} (hi : i < R.length) : atP R R[i].id = (i : Int) :=
  atP_hit hi rfl (fun j hj hji e => by have := hI.inj j i hj hi e; omega)
theorem upP_id {R : List RN} (hI : Ids R) {i : Nat} (hi : i < R.length) : upP R R[i].id = R[i].par := by
  have h0 := hI.pos R[i] (List.getElem_mem hi)
  unfold upP parOf
  rw [if_neg (by omega), atP_id hI hi]
  exact parAt_lt hi
theorem upN_rank {R : List RN} {rk : Int → Nat} (hU : Up R rk) (hI : Ids R) : ∀ (m : Nat) (x : Int), (∃ n, n ∈ R ∧ n.id = x) → upN R m x ≠ 0 → rk (upN R m x) ≤ rk x ∧ ∃ n, n ∈ R ∧ n.id = upN R m x := by
  intro m
  induction m with
  | zero => intro x hx _; exact ⟨Nat.le_refl _, hx⟩
  | succ m ih =>
    intro x hx h0
    rw [upN] at h0 ⊢
    obtain ⟨n, hn, rfl⟩ := hx
    obtain ⟨i, hi, rfl⟩ := List.getElem_of_mem hn
    rw [upP_id hI hi] at h0 ⊢
    by_cases hp : R[i].par = 0
    · rw [hp, upN_zero] at h0; exact absurd rfl h0
    · have h1 := hU.rank R[i] (List.getElem_mem hi) hp
      have h2 := (hU.par R[i] (List.getElem_mem hi)).resolve_left hp
      have h3 := ih R[i].par h2 h0
      exact ⟨by omega, h3.2⟩
theorem walk_up {R : List RN} (hI : Ids R) : ∀ (f a : Nat) (d : Int), fitP R f a → ∀ x, x ∈ walkP R f a d → x.1 < R.length ∧ ∃ m, upN R m (idAt R x.1) = idAt R a := by
  intro f
  induction f with
  | zero => intro a d h; exact absurd h (by simp [fitP])
  | succ f ih =>
    intro a d h x hx
    rw [walkP] at hx
    rcases List.mem_cons.1 hx with rfl | hx
    · exact ⟨h.1, 0, rfl⟩
    · obtain ⟨k, hk, hx⟩ := List.mem_flatMap.1 hx
      obtain ⟨hl, m, hm⟩ := ih k (d + 1) (h.2 k hk) x hx
      obtain ⟨hk1, hk2, _⟩ := kidsP_mem hk
      refine ⟨hl, m + 1, ?_⟩
      rw [upN_add, hm]
      show upP R (idAt R k) = _
      rw [idAt_lt hk1, upP_id hI hk1, ← parAt_lt hk1]
      exact hk2
theorem nodup_flatMap' {α β : Type} {l : List α} {g : α → List β} (hl : l.Nodup) (h1 : ∀ a, a ∈ l → (g a).Nodup) (h2 : ∀ a b, a ∈ l → b ∈ l → a ≠ b → ∀ x, x ∈ g a → x ∉ g b) : (l.flatMap g).Nodup := by
  induction l with
  | nil => simp
  | cons a l ih =>
    rw [List.flatMap_cons, List.nodup_append]
    have hl' := List.nodup_cons.1 hl
    refine ⟨h1 a (by simp), ih hl'.2 (fun b hb => h1 b (by simp [hb])) (fun b c hb hc => h2 b c (by simp [hb]) (by simp [hc])), fun x hx y hy e => ?_⟩
    subst e
    obtain ⟨b, hb, hy⟩ := List.mem_flatMap.1 hy
    exact h2 a b (by simp) (by simp [hb]) (fun e => hl'.1 (e ▸ hb)) x hx hy
theorem kids_nodup (R : List RN) (id : Int) : (kidsP R id).Nodup := by
  unfold kidsP kidsTo
  split
  · simp
  · exact List.Pairwise.filter _ List.nodup_range
theorem walk_nodup {R : List RN} {rk : Int → Nat} (hU : Up R rk) (hI : Ids R) : ∀ (f a : Nat) (d : Int), fitP R f a → ((walkP R f a d).map (·.1)).Nodup := by
  intro f
  induction f with
  | zero => intro a d h; exact absurd h (by simp [fitP])
  | succ f ih =>
    intro a d h
    rw [walkP, List.map_cons, List.map_flatMap, List.nodup_cons]
    have hmem : ∀ k, k ∈ kidsP R (idAt R a) → ∀ x, x ∈ (walkP R f k (d + 1)).map (·.1) → x < R.length ∧ ∃ m, upN R m (idAt R x) = idAt R k := by
      intro k hk x hx
      obtain ⟨y, hy, rfl⟩ := List.mem_map.1 hx
      exact walk_up hI f k (d + 1) (h.2 k hk) y hy
    have hpos : ∀ i, i < R.length → idAt R i ≠ 0 := fun i hi => by
      rw [idAt_lt hi]
      have := hI.pos R[i] (List.getElem_mem hi)
      omega
    refine ⟨fun hx => ?_, nodup_flatMap' (kids_nodup _ _) (fun k hk => ih k (d + 1) (h.2 k hk)) (fun k1 k2 hk1 hk2 hne x hx1 hx2 => ?_)⟩
    · obtain ⟨k, hk, hx⟩ := List.mem_flatMap.1 hx
      obtain ⟨hl, m, hm⟩ := hmem k hk a hx
      have hr := kid_rank hU hk
      have h1 := upN_rank hU hI m (idAt R a) ⟨R[a], List.getElem_mem hl, (idAt_lt hl).symm⟩ (by rw [hm]; exact hpos k (kidsP_mem hk).1)
      rw [hm] at h1
      omega
    · obtain ⟨hl, m1, e1⟩ := hmem k1 hk1 x hx1
      obtain ⟨_, m2, e2⟩ := hmem k2 hk2 x hx2
      have key : ∀ (p q : Nat) (m1 m2 : Nat), p ∈ kidsP R (idAt R a) → q ∈ kidsP R (idAt R a) → upN R m1 (idAt R x) = idAt R p → upN R m2 (idAt R x) = idAt R q → m1 ≤ m2 → p = q := by
        intro p q m1 m2 hp hq e1 e2 hle
        obtain ⟨p1, p2, _⟩ := kidsP_mem hp
        obtain ⟨q1, _, _⟩ := kidsP_mem hq
        have e3 : upN R (m2 - m1) (idAt R p) = idAt R q := by
          rw [← e1, ← upN_add, show m1 + (m2 - m1) = m2 by omega]; exact e2
        by_cases h0 : m2 - m1 = 0
        · rw [h0] at e3
          have e3 : idAt R p = idAt R q := e3
          rw [idAt_lt p1, idAt_lt q1] at e3
          exact hI.inj p q p1 q1 e3
        · obtain ⟨j, hj⟩ : ∃ j, m2 - m1 = j + 1 := ⟨m2 - m1 - 1, by omega⟩
          rw [hj, upN, idAt_lt p1, upP_id hI p1, ← parAt_lt p1, p2] at e3
          have hr := kid_rank hU hq
          have h1 := upN_rank hU hI j (idAt R a) ⟨R[a]'h.1, List.getElem_mem h.1, (idAt_lt h.1).symm⟩ (by rw [e3]; exact hpos q q1)
          rw [e3] at h1
          omega
      rcases Nat.le_total m1 m2 with hle | hle
      · exact hne (key k1 k2 m1 m2 hk1 hk2 e1 e2 hle)
      · exact hne (key k2 k1 m2 m1 hk2 hk1 e2 e1 hle).symm
theorem nodup_bound {l : List Nat} {n : Nat} (h : l.Nodup) (hb : ∀ x, x ∈ l → x < n) : l.length ≤ n := by
  induction n generalizing l with
  | zero =>
    cases l with
    | nil => exact Nat.le_refl _
    | cons a l => exact absurd (hb a (by simp)) (Nat.not_lt_zero _)
  | succ n ih =>
    by_cases hn : n ∈ l
    · have h1 := ih (h.erase n) (fun x hx => by
        have hx1 := List.mem_of_mem_erase hx
        have hx2 := hb x hx1
        have hx3 : x ≠ n := fun e => by subst e; exact h.not_mem_erase hx
        omega)
      have h2 := List.length_erase_of_mem hn
      omega
    · have h1 := ih h (fun x hx => by
        have hx2 := hb x hx
        have hx3 : x ≠ n := fun e => hn (e ▸ hx)
        omega)
      omega
theorem walk_length {R : List RN} {rk : Int → Nat} (hU : Up R rk) (hI : Ids R) {f a : Nat} {d : Int} (h : fitP R f a) : (walkP R f a d).length ≤ R.length := by
  have h1 := nodup_bound (walk_nodup hU hI f a d h) (n := R.length) (fun x hx => by
    obtain ⟨y, hy, rfl⟩ := List.mem_map.1 hx
    exact (walk_up hI f a d h y hy).1)
  simpa using h1
end Go.Proofs.YtobgcaemnpkbmaaGreat
