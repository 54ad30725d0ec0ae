/- App Wlk Ids Tre Tre2 Sets Within Tch Ins -/
import Derived.Test.YtobgcaemnpkbmaaMd02
import Derived.Deep.RegionHeld3
import Derived.Deep.AppendLies
import Derived.Deep.DrawnRows
import Derived.Test.YtobgcaemnpkbmaaMd01
namespace Go.Proofs.Ytobgcaemnpkbmaa
open Go.RowKit
theorem addr_add' (b o j : Nat) : (⟨b, o, none⟩ : Addr).add j = ⟨b, o + j, none⟩ := by
  unfold Addr.add; split
  · next h => subst h; rfl
  · rfl
def Grew (w w' : World) (v v' : Value) : Prop := (v'.ownBlock = v.ownBlock ∧ w.grownBy w' v.ownBlock ∧ w'.heap.size = w.heap.size) ∨ (v'.ownBlock = some w.heap.size ∧ w.grownBy w' none)
theorem Grew.by {w w' : World} {v v' : Value} (h : Grew w w' v v') : w.grownBy w' v.ownBlock := by
  rcases h with ⟨_, h, _⟩ | ⟨_, h⟩
  · exact h
  · exact ⟨h.os, h.tape, h.output, h.size, fun k hk _ => h.block k hk (by simp)⟩
theorem Grew.size {w w' : World} {v v' : Value} (h : Grew w w' v v') : w.heap.size ≤ w'.heap.size := h.by.size
theorem Grew.at {w w' : World} {v v' : Value} (h : Grew w w' v v') : v'.ownBlock = v.ownBlock ∨ v'.ownBlock = some w.heap.size := h.imp (·.1) (·.1)
theorem run_app {P : Program} (w : World) (base : Nat) (t ty e : TypeId) (i : TypeInfo) (z : Value) (size bytes : Nat) (ht : P.underlying t = some (.slice e)) (hi : P.info? e = some i) (hz : i.zero = some z)
    (hsize : i.size = size) (hby : i.bytes = bytes) (hzs : z.cells.size = size)
    (v : Value) (n : Nat) (xs : List Value) (hown : w.ownsRow base e size v n xs)
    (ao : Option Addr) (m c : Nat) (news : List Value) (hnone : ao = none → m = 0 ∧ c = 0) (hl : news.length = m * size) (hnews : ∀ a, ao = some a → ∀ j u, news[j]? = some u → w.cell? (a.add j) = some u) (h1 : ∀ u ∈ news, u.oneCell' = true)
    (h63 : n + m ≤ 9223372036854775807) (hbytes : (n + m) * bytes ≤ 140737488355328) (hbase : base ≤ w.heap.size) :
    ∃ v' w', (Builtin.append_ #[t, t] ty #[v, .slice ao m c]).run P w = .ok v' w' ∧ w'.ownsRow base e size v' (n + m) (xs ++ news) ∧ Grew w w' v v' ∧
      (v' = .slice none 0 0 ↔ v = .slice none 0 0 ∧ m = 0) := by
  subst hsize hby
  have hm63 : n + m ≤ maxLen := by unfold maxLen; omega
  have hxs := hown.1
  have hlen : (xs ++ news).length = (n + m) * i.size := by rw [List.length_append, hxs, hl, Nat.add_mul]
  cases ao with
  | none =>
    obtain ⟨rfl, rfl⟩ := hnone rfl
    have hnn : news = [] := List.eq_nil_of_length_eq_zero (by simpa using hl)
    subst hnn
    refine ⟨v, w, run_append_owned_none w base t ty e i i.size ht hi v n xs hown, by simpa using hown, .inl ⟨rfl, World.grownBy.refl _ _, rfl⟩, by simp⟩
  | some a =>
    have hnews := hnews a rfl
    have made : ∀ old, old < n + m → (w.drew.alloc (.cells (xs.toArray ++ news.toArray ++ Builtin.zeroCells z.cells (grownCap w (n + m) old e - (n + m))) e)).ownsRow base e i.size
        (.slice (some ⟨w.heap.size, 0, none⟩) (n + m) (grownCap w (n + m) old e)) (n + m) (xs ++ news) := by
      intro old _
      have hge := grownCap_ge w (n + m) old e
      refine ⟨hlen, .inr ⟨w.heap.size, _, _, rfl, hbase, heap_alloc_new w.drew _, hge, grownCap_le_maxLen w (n + m) old e hm63, ?_, ?_⟩⟩
      · rw [Array.size_append, Array.size_append, size_zeroCells, hzs, List.size_toArray, List.size_toArray, hxs, hl, ← Nat.add_mul, ← Nat.add_mul]
        congr 1
        omega
      · rw [← hlen, Array.toList_append, Array.toList_append]
        exact List.take_left
    have grew : ∀ o : Obj, w.grownBy (w.drew.alloc o) none := fun o => ⟨rfl, rfl, rfl, by simp, fun k hk _ => heap_alloc_old w.drew _ hk⟩
    rcases hown.2 with ⟨rfl, rfl⟩ | ⟨g, cap, cur, rfl, hbg, hg, hnc, hcm, hcs, htake⟩
    · have hx : xs = [] := List.eq_nil_of_length_eq_zero (by simpa using hxs)
      subst hx
      by_cases hm : m = 0
      · subst hm
        have hnn : news = [] := List.eq_nil_of_length_eq_zero (by simpa using hl)
        subst hnn
        refine ⟨.slice none 0 0, w, ?_, World.ownsRow_nil w base e i.size, .inl ⟨rfl, World.grownBy.refl _ _, rfl⟩, by simp⟩
        simp [Builtin.append_, run_underlying ht, sizeOf, typeInfo, hi, Builtin.lenOf, Builtin.firstCells, loadCells, loadCellsFrom]
      · have hr := run_append_nil (P := P) w t ty e i z ht hi hz a m c news hl hnews (by omega) (by omega) (by have hb := hbytes; simp only [Nat.zero_add] at hb; omega)
        have hgr := made 0 (by omega)
        simp only [Nat.zero_add, List.nil_append, Array.empty_append] at hgr ⊢
        exact ⟨_, _, hr, hgr, .inr ⟨rfl, grew _⟩, by simp [hm]⟩
    · by_cases hroom : n + m ≤ cap
      · have hfit : n * i.size + news.length ≤ cur.size := by rw [hl, hcs, ← Nat.add_mul]; exact Nat.mul_le_mul_right _ hroom
        have hr := run_append_room (P := P) w t ty e i ht hi g n cap cur hg a m c news hl hnews h1 hroom hfit
        refine ⟨_, _, hr, ⟨hlen, .inr ⟨g, cap, _, rfl, hbg, setRow_heap w g cur _ e _ hg, hroom, hcm, ?_, ?_⟩⟩, .inl ⟨rfl, ⟨rfl, rfl, rfl, by simp, fun k _ hk => setRow_other w g k _ (fun e => hk (by simp [Value.ownBlock, e]))⟩, by simp⟩, by simp⟩
        · simp only [List.size_toArray, List.length_append, List.length_take, List.length_drop, Array.length_toList]
          omega
        · rw [htake, ← hlen]
          exact List.take_left
      · have hr := run_append_grow (P := P) w t ty e i z ht hi hz ⟨g, 0, none⟩ n cap xs hxs (hown.cells (g := g) rfl) a m c news hl hnews (by omega) (by omega) (growslice_fits (by omega) hbytes)
        exact ⟨_, _, hr, made cap (by omega), .inr ⟨rfl, grew _⟩, by simp⟩
theorem wpList_app {P : Program} (w : World) {ops : Array Oper} {rest : List Oper} {o : Oper} {a : Act} {Q : Exit → Act → World → Prop} (hgd : o.guard = none) (s x : Operand) (t : TypeId)
    (ho : o.op = .call { callee := .builtin .append, args := #[s, x], argTypes := #[t, t] })
    (base : Nat) (e : TypeId) (i : TypeInfo) (z : Value) (size bytes : Nat) (ht : P.underlying t = some (.slice e)) (hi : P.info? e = some i) (hz : i.zero = some z)
    (hsize : i.size = size) (hby : i.bytes = bytes) (hzs : z.cells.size = size)
    (v : Value) (n : Nat) (xs : List Value) (hs : a.eval s = v) (hown : w.ownsRow base e size v n xs)
    (ao : Option Addr) (m c : Nat) (news : List Value) (hx : a.eval x = .slice ao m c) (hnone : ao = none → m = 0 ∧ c = 0) (hl : news.length = m * size) (hnews : ∀ a, ao = some a → ∀ j u, news[j]? = some u → w.cell? (a.add j) = some u) (h1 : ∀ u ∈ news, u.oneCell' = true)
    (h63 : n + m ≤ 9223372036854775807) (hbytes : (n + m) * bytes ≤ 140737488355328) (hbase : base ≤ w.heap.size)
    (h : ∀ v' w', Hid (w'.ownsRow base e size v' (n + m) (xs ++ news)) → Hid (Grew w w' v v') → Hid (v' = .slice none 0 0 ↔ v = .slice none 0 0 ∧ m = 0) → wpList P ops Q rest (a.put o.dst v') w') : wpList P ops Q (o :: rest) a w := by
  refine wpList_plain hgd fun K hK => ?_
  obtain ⟨v', w', hr, h2, h3, h4⟩ := run_app (P := P) w base t o.type e i z size bytes ht hi hz hsize hby hzs v n xs hown ao m c news hnone hl hnews h1 h63 hbytes hbase
  unfold Oper.wp execOp
  simp only [ho, resolve, invoke, builtin, Sem.run_bind, Sem.run_pure, Result.andThen_ok, List.map_toArray, List.map_cons, List.map_nil, hs, hx, hr]
  exact hK _ _ (h v' w' (hide h2) (hide h3) (hide h4))
theorem cells_new (w : World) (xs : Array Value) (t : TypeId) : ∀ a, some (⟨w.heap.size, 0, none⟩ : Addr) = some a → ∀ j u, xs.toList[j]? = some u → (w.alloc (.cells xs t)).cell? (a.add j) = some u := by
  intro a e j u hu
  cases e
  rw [addr_add', cell_of_row _ _ _ xs t (0, 0) (heap_alloc_new w _)]
  simpa using hu
def parAt (R : List RN) (i : Nat) : Int := match R[i]? with | some n => n.par | none => 0
def kidsTo (R : List RN) (id : Int) (k : Nat) : List Nat := (List.range k).filter fun i => parAt R i == id
def kidsP (R : List RN) (id : Int) : List Nat := if id = 0 then [] else kidsTo R id R.length
theorem kidsTo_hit {R : List RN} {id : Int} {k : Nat} (h : parAt R k = id) : kidsTo R id (k + 1) = kidsTo R id k ++ [k] := by
  unfold kidsTo; rw [List.range_succ, List.filter_append]; simp [h]
theorem kidsTo_miss {R : List RN} {id : Int} {k : Nat} (h : ¬ parAt R k = id) : kidsTo R id (k + 1) = kidsTo R id k := by
  unfold kidsTo; rw [List.range_succ, List.filter_append]; simp [h]
theorem parAt_lt {R : List RN} {i : Nat} (h : i < R.length) : parAt R i = R[i].par := by unfold parAt; rw [List.getElem?_eq_getElem h]
def intsOf (l : List Nat) : List Value := l.map fun (i : Nat) => Value.int .i64 (i : Int)
theorem intInfo : (Try.prog.info? 3).map (fun i => (i.zero, i.size, i.bytes)) = some (some (.int .i64 0), 1, 8) := by kernel_rfl
def IntsAt (w : World) (B : Nat) (v : Value) (l : List Value) : Prop := w.ownsRow B 3 1 v l.length l
end Go.Proofs.Ytobgcaemnpkbmaa
namespace Go.Proofs.Ytobgcaemnpkbmaa
open Go.RowKit
def idAt (R : List RN) (i : Nat) : Int := match R[i]? with | some n => n.id | none => 0
theorem idAt_lt {R : List RN} {i : Nat} (h : i < R.length) : idAt R i = R[i].id := by unfold idAt; rw [List.getElem?_eq_getElem h]
def walkP (R : List RN) : Nat → Nat → Int → List (Nat × Int)
  | 0, _, _ => []
  | f + 1, a, d => (a, d) :: (kidsP R (idAt R a)).flatMap fun k => walkP R f k (d + 1)
def fitP (R : List RN) : Nat → Nat → Prop
  | 0, _ => False
  | f + 1, a => a < R.length ∧ ∀ k, k ∈ kidsP R (idAt R a) → fitP R f k
def places (W : List (Nat × Int)) : List Value := W.map fun x => Value.int .i64 (x.1 : Int)
def deeps (W : List (Nat × Int)) : List Value := W.map fun x => Value.int .i64 x.2
theorem IntsAt.some {w : World} {B : Nat} {ao : Option Addr} {n c : Nat} {l : List Value} (h : IntsAt w B (.slice ao n c) l) (h0 : 0 < l.length) : ∃ g, ao = some ⟨g, 0, none⟩ ∧ n ≤ c ∧ B ≤ g ∧ g < w.heap.size ∧ ∀ j, j < l.length → w.cell? ⟨g, j, none⟩ = l[j]? := by
  rcases h.2 with ⟨_, e⟩ | ⟨g, cap, cur, e, hb, hg, hc, _⟩
  · omega
  · cases e
    exact ⟨g, rfl, hc, hb, (Array.getElem?_eq_some_iff.1 hg).1, fun j hj => World.ownsRow.cellAt h j (by omega)⟩
theorem IntsAt.below {w w' : World} {B : Nat} {v : Value} {l : List Value} (h : IntsAt w B v l) (hb : Below w.heap.size w w') : IntsAt w' B v l := ownsRow_below h hb
theorem IntsAt.kept {w w' : World} {B : Nat} {v : Value} {l : List Value} {row : Option Nat} (h : IntsAt w B v l) (hg : w.grownBy w' row) (hne : v.ownBlock = none ∨ v.ownBlock ≠ row) : IntsAt w' B v l := World.ownsRow.kept h hg hne
theorem IntsAt.mono {w : World} {B B' : Nat} {v : Value} {l : List Value} (h : IntsAt w B v l) (hB : B' ≤ B) : IntsAt w B' v l := by
  refine ⟨h.1, h.2.imp id ?_⟩
  rintro ⟨g, cap, cur, e, hb, r⟩
  exact ⟨g, cap, cur, e, Nat.le_trans hB hb, r⟩
theorem IntsAt.none {w : World} {B : Nat} {ao : Option Addr} {n c : Nat} {l : List Value} (h : IntsAt w B (.slice ao n c) l) (e : ao = Option.none) : n = 0 ∧ c = 0 := by
  rcases h.2 with ⟨e', _⟩ | ⟨g, cap, cur, e', _⟩
  · cases e'; exact ⟨rfl, rfl⟩
  · cases e'; cases e
structure Walked (w w' : World) (W : List (Nat × Int)) (r1 r2 : Value) : Prop where
  o1 : IntsAt w' w.heap.size r1 (places W)
  o2 : IntsAt w' w.heap.size r2 (deeps W)
  bel : Below w.heap.size w w'
structure WInv (w wr : World) (kv q1 q2 : Value) (K : List Nat) (W : List (Nat × Int)) : Prop where
  o1 : IntsAt wr w.heap.size q1 (places W)
  o2 : IntsAt wr w.heap.size q2 (deeps W)
  ok : IntsAt wr w.heap.size kv (intsOf K)
  n12 : q2.ownBlock ≠ q1.ownBlock
  n1 : kv.ownBlock = none ∨ kv.ownBlock ≠ q1.ownBlock
  n2 : kv.ownBlock = none ∨ kv.ownBlock ≠ q2.ownBlock
  bel : Below w.heap.size w wr
theorem own_lt {w : World} {B : Nat} {e : TypeId} {size : Nat} {v : Value} {n : Nat} {xs : List Value} (h : w.ownsRow B e size v n xs) {M : Nat} (hM : w.heap.size ≤ M) : v.ownBlock ≠ Option.some M := by
  intro e
  have := (h.lt M e).2
  omega
theorem grow_ne {w w' : World} {q q' v : Value} (hg : Grew w w' q q') (hne : v.ownBlock = none ∨ v.ownBlock ≠ q.ownBlock) (hlt : v.ownBlock ≠ Option.some w.heap.size) : v.ownBlock = none ∨ v.ownBlock ≠ q'.ownBlock := by
  rcases hg.at with e | e
  · rw [e]; exact hne
  · rw [e]; exact .inr hlt
theorem WInv.far {w wr w1 : World} {kv q1 q2 r : Value} {K : List Nat} {W : List (Nat × Int)} (h : WInv w wr kv q1 q2 K W) {l : List Value} (hr : IntsAt w1 wr.heap.size r l) : r.ownBlock = Option.none ∨ r.ownBlock ≠ q1.ownBlock := by
  cases hq : r.ownBlock with
  | none => exact .inl rfl
  | some b =>
    refine .inr fun e => ?_
    have h1 := (World.ownsRow.lt hr b hq).1
    have h2 := (World.ownsRow.lt h.o1 b e.symm).2
    omega
theorem WInv.step {w wr w1 w2 w3 : World} {kv q1 q2 q1' q2' r1 r2 : Value} {K : List Nat} {W V : List (Nat × Int)} (h : WInv w wr kv q1 q2 K W) (hV : Walked wr w1 V r1 r2)
    (ho1 : IntsAt w2 w.heap.size q1' (places (W ++ V))) (hg1 : Grew w1 w2 q1 q1') (ho2 : IntsAt w3 w.heap.size q2' (deeps (W ++ V))) (hg2 : Grew w2 w3 q2 q2') : WInv w w3 kv q1' q2' K (W ++ V) := by
  have b1 := hV.bel
  have e1 := h.o1.below b1
  have e2 := h.o2.below b1
  have e3 := h.ok.below b1
  have k2 := e2.kept hg1.by (.inr h.n12)
  have k3 := e3.kept hg1.by h.n1
  have m1 : q2.ownBlock ≠ q1'.ownBlock := by
    rcases hg1.at with e | e
    · rw [e]; exact h.n12
    · rw [e]; exact own_lt e2 (Nat.le_refl _)
  have m3 := grow_ne hg1 h.n1 (own_lt e3 (Nat.le_refl _))
  have m4 := grow_ne hg2 h.n2 (own_lt k3 (Nat.le_refl _))
  have m5 : q2'.ownBlock ≠ q1'.ownBlock := by
    rcases hg2.at with e | e
    · rw [e]; exact m1
    · rw [e]; exact Ne.symm (own_lt ho1 (Nat.le_refl _))
  refine ⟨ho1.kept hg2.by (.inr (Ne.symm m1)), ho2, k3.kept hg2.by h.n2, m5, m3, m4, ?_⟩
  have hsz := h.bel.size
  have c1 := h.bel.trans (b1.mono hsz)
  have c2 := c1.grown hg1.by (by have := b1.size; omega) (fun j hj => (h.o1.lt j hj).1)
  exact c2.grown hg2.by (by have := b1.size; have := hg1.size; omega) (fun j hj => (h.o2.lt j hj).1)
end Go.Proofs.Ytobgcaemnpkbmaa
namespace Go.Proofs.Ytobgcaemnpkbmaa
open Go.RowKit
end Go.Proofs.Ytobgcaemnpkbmaa
namespace Go.Proofs.Ytobgcaemnpkbmaa
open Go.RowKit
attribute [local go_sem ↓] Go.wp_at_zero Go.wp_at_succ
theorem attrInfo' : (Try.prog.info? 58).map (fun i => (i.zero, i.size, i.bytes)) = some (some (.agg #[.string ⟨#[]⟩, .string ⟨#[]⟩]), 2, 32) := by kernel_rfl
theorem nodeInfo' : (Try.prog.info? 28).map (fun i => (i.zero, i.size, i.bytes)) = some (some (.agg #[.int .i64 0, .string ⟨#[]⟩, .int .i64 0, .slice none 0 0, .string ⟨#[]⟩]), 5, 72) := by kernel_rfl
def attrCells (l : List (ByteArray × ByteArray)) : List Value := l.flatMap fun x => [.string x.1, .string x.2]
theorem attrCells_length (l : List (ByteArray × ByteArray)) : (attrCells l).length = l.length * 2 := by
  unfold attrCells
  induction l with
  | nil => rfl
  | cons a l ih => rw [List.flatMap_cons, List.length_append, ih]; show 2 + l.length * 2 = (l.length + 1) * 2; omega
theorem attrCells_get (l : List (ByteArray × ByteArray)) (i r : Nat) (hi : i < l.length) (hr : r < 2) : (attrCells l)[i * 2 + r]? = [Value.string (nmOf l i), .string (vlOf l i)][r]? := by
  induction l generalizing i with
  | nil => exact absurd hi (Nat.not_lt_zero _)
  | cons a l ih =>
    have e : attrCells (a :: l) = [.string a.1, .string a.2] ++ attrCells l := by unfold attrCells; rw [List.flatMap_cons]
    rw [e]
    cases i with
    | zero => rw [List.getElem?_append_left (by show 0 * 2 + r < 2; omega)]; simp [nmOf, vlOf]
    | succ i =>
      rw [List.getElem?_append_right (by show 2 ≤ _; omega)]
      have e2 : (i + 1) * 2 + r - [Value.string a.1, Value.string a.2].length = i * 2 + r := by show _ - 2 = _; omega
      rw [e2, ih i (by simpa using hi)]
      rfl
theorem attrCells_one (l : List (ByteArray × ByteArray)) : ∀ u ∈ attrCells l, u.oneCell' = true := by
  intro u hu
  obtain ⟨x, _, hu⟩ := List.mem_flatMap.1 hu
  simp at hu
  rcases hu with rfl | rfl <;> rfl
theorem attrs_of_row {w : World} {base : Nat} {ao : Option Addr} {n c : Nat} {l : List (ByteArray × ByteArray)} (h : w.ownsRow base 58 2 (.slice ao n c) n (attrCells l)) (hn : n = l.length) (hs : ∀ x, x ∈ l → x.1.size ≤ maxLen ∧ x.2.size ≤ maxLen) : AttrsAt w ao n (nmOf l) (vlOf l) := by
  intro j hj
  rcases h.2 with ⟨_, e⟩ | ⟨g, cap, cur, e, _, hg, hc, _⟩
  · omega
  · cases e
    have hx : l[j]'(by omega) ∈ l := List.getElem_mem _
    have e1 : nmOf l j = (l[j]'(by omega)).1 := by unfold nmOf; rw [List.getD_eq_getElem?_getD, List.getElem?_eq_getElem (by omega)]; rfl
    have e2 : vlOf l j = (l[j]'(by omega)).2 := by unfold vlOf; rw [List.getD_eq_getElem?_getD, List.getElem?_eq_getElem (by omega)]; rfl
    refine ⟨g, 0, rfl, (Array.getElem?_eq_some_iff.1 hg).1, ?_, ?_, by rw [e1]; exact (hs _ hx).1, by rw [e2]; exact (hs _ hx).2⟩
    · rw [Nat.zero_add, h.cellAt (j * 2) (by omega)]
      exact attrCells_get l j 0 (by omega) (by omega)
    · rw [Nat.zero_add, h.cellAt (j * 2 + 1) (by omega)]
      exact attrCells_get l j 1 (by omega) (by omega)
structure TN where
  d : Int
  tag : ByteArray
  key : Int
  text : ByteArray
  ats : List (ByteArray × ByteArray)
  ao : Option Addr
  an : Nat
  ac : Nat
def TN.cells (n : TN) : List Value := [.int .i64 n.d, .string n.tag, .int .i64 n.key, .slice n.ao n.an n.ac, .string n.text]
def tellOf (N : List TN) : List Value := N.flatMap TN.cells
theorem tellOf_length (N : List TN) : (tellOf N).length = N.length * 5 := by
  unfold tellOf
  induction N with
  | nil => rfl
  | cons a N ih => rw [List.flatMap_cons, List.length_append, ih, List.length_cons]; show 5 + _ = _; omega
theorem tellOf_snoc (N : List TN) (n : TN) : tellOf (N ++ [n]) = tellOf N ++ n.cells := by unfold tellOf; simp
theorem TN.cells_one (n : TN) : ∀ u ∈ n.cells, u.oneCell' = true := by
  intro u hu; simp [TN.cells] at hu; rcases hu with rfl | rfl | rfl | rfl | rfl <;> rfl
def TN.av (n : TN) : Value := .slice n.ao n.an n.ac
structure TN.Ok (B : Nat) (w : World) (q : Value) (n : TN) : Prop where
  an : n.an = n.ats.length
  tag : n.tag.size ≤ maxLen
  text : n.text.size ≤ maxLen
  row : w.ownsRow B 58 2 n.av n.an (attrCells n.ats)
  size : ∀ x, x ∈ n.ats → x.1.size ≤ maxLen ∧ x.2.size ≤ maxLen
  ne : n.av.ownBlock = none ∨ n.av.ownBlock ≠ q.ownBlock
structure TellAt (B : Nat) (w : World) (q : Value) (N : List TN) : Prop where
  row : w.ownsRow B 28 5 q N.length (tellOf N)
  node : ∀ n, n ∈ N → n.Ok B w q
  far : N.Pairwise fun m n => n.av.ownBlock = none ∨ n.av.ownBlock ≠ m.av.ownBlock
def tellP (R : List RN) (x : Nat × Int) (n : TN) : Prop := ∃ h : x.1 < R.length, n.d = x.2 ∧ n.tag = R[x.1].tag ∧ n.key = R[x.1].key ∧ n.text = R[x.1].text ∧ n.ats = R[x.1].ats
theorem TellAt.nil (B : Nat) (w : World) : TellAt B w (.slice none 0 0) [] := ⟨World.ownsRow_nil _ _ _ _, fun n h => by simp at h, List.Pairwise.nil⟩
theorem TN.Ok.kept {B : Nat} {w w' : World} {q q' : Value} {n : TN} (h : n.Ok B w q) (hg : Grew w w' q q') : n.Ok B w' q' :=
  ⟨h.an, h.tag, h.text, h.row.kept hg.by h.ne, h.size, grow_ne hg h.ne (own_lt h.row (Nat.le_refl _))⟩
theorem TN.Ok.below {B : Nat} {w w' : World} {q : Value} {n : TN} (h : n.Ok B w q) (hb : Below w.heap.size w w') : n.Ok B w' q :=
  ⟨h.an, h.tag, h.text, ownsRow_below h.row hb, h.size, h.ne⟩
theorem TellAt.below {B : Nat} {w w' : World} {q : Value} {N : List TN} (h : TellAt B w q N) (hb : Below w.heap.size w w') : TellAt B w' q N :=
  ⟨ownsRow_below h.row hb, fun n hn => (h.node n hn).below hb, h.far⟩
theorem own_ge {w : World} {B : Nat} {e : TypeId} {size : Nat} {v : Value} {n : Nat} {xs : List Value} (h : w.ownsRow B e size v n xs) {B' : Nat} (hB : B' ≤ B) : w.ownsRow B' e size v n xs := by
  refine ⟨h.1, h.2.imp id ?_⟩
  rintro ⟨g, cap, cur, e, hb, r⟩
  exact ⟨g, cap, cur, e, Nat.le_trans hB hb, r⟩
theorem own_far {w w1 : World} {B B1 : Nat} {e e1 : TypeId} {size size1 : Nat} {v v1 : Value} {n n1 : Nat} {xs xs1 : List Value} (h : w.ownsRow B e size v n xs) (h1 : w1.ownsRow B1 e1 size1 v1 n1 xs1) (hs : w.heap.size ≤ B1) : v1.ownBlock = none ∨ v1.ownBlock ≠ v.ownBlock := by
  cases hv : v1.ownBlock with
  | none => exact .inl rfl
  | some b =>
    refine .inr fun e => ?_
    have := (h1.lt b hv).1
    have := (h.lt b e.symm).2
    omega
theorem TellAt.more {B : Nat} {w w1 w2 : World} {q q' : Value} {N : List TN} {n : TN} (h : TellAt B w q N) (hB : B ≤ w.heap.size) (hb : Below w.heap.size w w1) (han : n.an = n.ats.length) (htag : n.tag.size ≤ maxLen) (htext : n.text.size ≤ maxLen)
    (hrow : w1.ownsRow w.heap.size 58 2 n.av n.an (attrCells n.ats)) (hsz : ∀ x, x ∈ n.ats → x.1.size ≤ maxLen ∧ x.2.size ≤ maxLen)
    (ho : w2.ownsRow B 28 5 q' (N.length + 1) (tellOf N ++ n.cells)) (hg : Grew w1 w2 q q') : TellAt B w2 q' (N ++ [n]) := by
  have hn : n.Ok B w1 q := ⟨han, htag, htext, own_ge hrow hB, hsz, own_far h.row hrow (Nat.le_refl _)⟩
  refine ⟨?_, fun m hm => ?_, ?_⟩
  · rw [List.length_append, tellOf_snoc]; exact ho
  · rcases List.mem_append.1 hm with hm | hm
    · exact ((h.node m hm).below hb).kept hg
    · have := List.mem_singleton.1 hm
      subst this
      exact hn.kept hg
  · rw [List.pairwise_append]
    refine ⟨h.far, List.pairwise_singleton _ _, fun m hm x hx => ?_⟩
    have := List.mem_singleton.1 hx
    subst this
    exact own_far (h.node m hm).row hrow (Nat.le_refl _)
end Go.Proofs.Ytobgcaemnpkbmaa
namespace Go.Proofs.Ytobgcaemnpkbmaa
open Go.RowKit
attribute [local go_sem ↓] Go.wp_at_zero Go.wp_at_succ
theorem cells_new' (w : World) (xs : Array Value) (t : TypeId) (n : Nat) (hn : n = w.heap.size) : ∀ a, some (⟨n, 0, none⟩ : Addr) = some a → ∀ j u, xs.toList[j]? = some u → (w.alloc (.cells xs t)).cell? (a.add j) = some u := by
  subst hn; exact cells_new w xs t
theorem size_setCell' (w : World) (a : Addr) (u : Value) : (w.setCell a u).heap.size = w.heap.size := by simp [World.setCell]
theorem own_set {w : World} {B : Nat} {e : TypeId} {size : Nat} {v : Value} {n : Nat} {xs : List Value} (h : w.ownsRow B e size v n xs) {a : Addr} {u : Value} (hne : v.ownBlock = none ∨ v.ownBlock ≠ some a.block) : (w.setCell a u).ownsRow B e size v n xs :=
  h.kept (row := some a.block) ⟨rfl, rfl, rfl, by rw [size_setCell']; exact Nat.le_refl _, fun k _ hk => Below.heap_setCell _ _ _ _ (fun e => hk (by rw [e]))⟩ hne
theorem TellAt.base {B B' : Nat} {w : World} {q : Value} {N : List TN} (h : TellAt B w q N) (hB : B' ≤ B) : TellAt B' w q N :=
  ⟨own_ge h.row hB, fun n hn => ⟨(h.node n hn).an, (h.node n hn).tag, (h.node n hn).text, own_ge (h.node n hn).row hB, (h.node n hn).size, (h.node n hn).ne⟩, h.far⟩
theorem own_shape {w : World} {B : Nat} {e : TypeId} {size : Nat} {v : Value} {n : Nat} {xs : List Value} (h : w.ownsRow B e size v n xs) : ∃ ao c, v = .slice ao n c := by
  rcases h.2 with ⟨rfl, rfl⟩ | ⟨g, cap, cur, rfl, _⟩
  · exact ⟨none, 0, rfl⟩
  · exact ⟨_, cap, rfl⟩
end Go.Proofs.Ytobgcaemnpkbmaa
namespace Go.Proofs.Ytobgcaemnpkbmaa
open Go.RowKit
def sameB (a b : ByteArray) : Bool := a.toList == b.toList
def attAt (l : List (ByteArray × ByteArray)) (k : Nat) : ByteArray × ByteArray := l.getD k (ByteArray.empty, ByteArray.empty)
theorem attAt_lt {l : List (ByteArray × ByteArray)} {k : Nat} (h : k < l.length) : attAt l k = l[k] := by
  unfold attAt; rw [List.getD_eq_getElem?_getD, List.getElem?_eq_getElem h]; rfl
def unsetP (l : List (ByteArray × ByteArray)) (nm : ByteArray) : List (ByteArray × ByteArray) := l.filter fun x => !sameB x.1 nm
def setTo (l : List (ByteArray × ByteArray)) (nm vl : ByteArray) : Nat → List (ByteArray × ByteArray) × Bool
  | 0 => ([], false)
  | k + 1 =>
    let r := setTo l nm vl k
    let o := if r.2 = false ∧ Op.bytesLess (attAt l k).1.toList nm.toList = false then r.1 ++ [(nm, vl)] else r.1
    (if sameB (attAt l k).1 nm then o else o ++ [attAt l k], r.2 || !Op.bytesLess (attAt l k).1.toList nm.toList)
def setP (l : List (ByteArray × ByteArray)) (nm vl : ByteArray) : List (ByteArray × ByteArray) := if (setTo l nm vl l.length).2 then (setTo l nm vl l.length).1 else (setTo l nm vl l.length).1 ++ [(nm, vl)]
end Go.Proofs.Ytobgcaemnpkbmaa
namespace Go.Proofs.Ytobgcaemnpkbmaa
open Go.RowKit
def parOf (R : List RN) (id : Int) : Int := parAt R (atP R id).toNat
def inP (R : List RN) : Nat → Int → Int → Bool
  | 0, _, _ => false
  | f + 1, id, other => if id = 0 then false else if id = other then true else inP R f (parOf R id) other
theorem inP_zero (R : List RN) (f : Nat) (o : Int) : inP R f 0 o = false := by cases f <;> simp [inP]
structure Up (R : List RN) (rk : Int → Nat) : Prop where
  par : ∀ n, n ∈ R → n.par = 0 ∨ ∃ m, m ∈ R ∧ m.id = n.par
  rank : ∀ n, n ∈ R → n.par ≠ 0 → rk n.par < rk n.id
end Go.Proofs.Ytobgcaemnpkbmaa
namespace Go.Proofs.Ytobgcaemnpkbmaa
open Go.RowKit
structure Touch (S : Nat → Prop) (w w' : World) : Prop where
  os : w'.os = w.os
  tape : w'.tape = w.tape
  output : w'.output = w.output
  size : w.heap.size ≤ w'.heap.size
  block : ∀ k, k < w.heap.size → ¬ S k → w'.heap[k]? = w.heap[k]?
theorem Touch.of_below {S : Nat → Prop} {w w' : World} (h : Below w.heap.size w w') : Touch S w w' := ⟨h.os, h.tape, h.output, h.size, fun k hk _ => h.block k hk⟩
theorem Touch.trans {S : Nat → Prop} {a b c : World} (h : Touch S a b) (k : Touch (fun b => S b ∨ a.heap.size ≤ b) b c) : Touch S a c :=
  ⟨k.os.trans h.os, k.tape.trans h.tape, k.output.trans h.output, Nat.le_trans h.size k.size, fun i hi hn => (k.block i (Nat.lt_of_lt_of_le hi h.size) (fun e => by rcases e with e | e; exact hn e; omega)).trans (h.block i hi hn)⟩
theorem Touch.mono {S S' : Nat → Prop} {w w' : World} (h : Touch S w w') (hS : ∀ b, b < w.heap.size → S b → S' b) : Touch S' w w' := ⟨h.os, h.tape, h.output, h.size, fun k hk hn => h.block k hk (fun e => hn (hS k hk e))⟩
theorem Touch.set {S : Nat → Prop} {w w' : World} (h : Touch S w w') {a : Addr} (ha : S a.block ∨ w.heap.size ≤ a.block) (u : Value) : Touch S w (w'.setCell a u) :=
  ⟨h.os, h.tape, h.output, by simpa [World.setCell] using h.size, fun k hk hn => (Below.heap_setCell w' a u k (fun e => by rcases ha with ha | ha; exact hn (by rw [e]; exact ha); omega)).trans (h.block k hk hn)⟩
end Go.Proofs.Ytobgcaemnpkbmaa
namespace Go.Proofs.Ytobgcaemnpkbmaa
open Go.RowKit
def andNew (S : Nat → Prop) (w w' : World) : Nat → Prop := fun b => S b ∨ (w.heap.size ≤ b ∧ b < w'.heap.size)
theorem RN.cells_one (n : RN) : ∀ u ∈ n.cells, u.oneCell' = true := by
  intro u hu; simp [RN.cells] at hu; rcases hu with rfl | rfl | rfl | rfl | rfl | rfl <;> rfl
def insTo (R : List RN) (n : RN) (fr : Nat) (bf : Int) : Nat → List RN
  | 0 => []
  | k + 1 => insTo R n fr bf k ++ (if bf ≠ 0 ∧ idAt R k = bf then [n] else []) ++ (if k = fr then [] else (R.drop k).take 1)
def insP (R : List RN) (n : RN) (fr : Nat) (bf : Int) : List RN := insTo R n fr bf R.length ++ (if bf = 0 then [n] else [])
theorem drop_one {R : List RN} {k : Nat} (h : k < R.length) : (R.drop k).take 1 = [R[k]] := by
  rw [List.drop_eq_getElem_cons h]; rfl
end Go.Proofs.Ytobgcaemnpkbmaa
