/- Tre Tre2 Sets Within Tch Ins Row Mp -/
import Derived.Test.YtobgcaemnpkbmaaKc05
import Derived.Test.YtobgcaemnpkbmaaKc01
import Derived.Shelf.Spec.SlicesInsert
import Derived.Lib.AppendZerosOnto
import Derived.Laws.NewBlocks
import Derived.Maps.OwnSet
import Derived.Maps.OwnOps
namespace Go.Proofs.Ytobgcaemnpkbmaa
open Go.RowKit
attribute [local go_sem ↓] Go.wp_at_zero Go.wp_at_succ
theorem attrInfo' : (Try.prog.info? 58).map (fun i => (i.zero, i.size, i.bytes)) = some (some (.agg #[.string ⟨#[]⟩, .string ⟨#[]⟩]), 2, 32) := by kernel_rfl
theorem nodeInfo' : (Try.prog.info? 28).map (fun i => (i.zero, i.size, i.bytes)) = some (some (.agg #[.int .i64 0, .string ⟨#[]⟩, .int .i64 0, .slice none 0 0, .string ⟨#[]⟩]), 5, 72) := by kernel_rfl
def attrCells (l : List (ByteArray × ByteArray)) : List Value := l.flatMap fun x => [.string x.1, .string x.2]
theorem attrCells_length (l : List (ByteArray × ByteArray)) : (attrCells l).length = l.length * 2 := by
  unfold attrCells
  induction l with
  | nil => rfl
  | cons a l ih => rw [List.flatMap_cons, List.length_append, ih]; show 2 + l.length * 2 = (l.length + 1) * 2; omega
theorem attrCells_get (l : List (ByteArray × ByteArray)) (i r : Nat) (hi : i < l.length) (hr : r < 2) : (attrCells l)[i * 2 + r]? = [Value.string (nmOf l i), .string (vlOf l i)][r]? := by
  induction l generalizing i with
  | nil => exact absurd hi (Nat.not_lt_zero _)
  | cons a l ih =>
    have e : attrCells (a :: l) = [.string a.1, .string a.2] ++ attrCells l := by unfold attrCells; rw [List.flatMap_cons]
    rw [e]
    cases i with
    | zero => rw [List.getElem?_append_left (by show 0 * 2 + r < 2; omega)]; simp [nmOf, vlOf]
    | succ i =>
      rw [List.getElem?_append_right (by show 2 ≤ _; omega)]
      have e2 : (i + 1) * 2 + r - [Value.string a.1, Value.string a.2].length = i * 2 + r := by show _ - 2 = _; omega
      rw [e2, ih i (by simpa using hi)]
      rfl
theorem attrCells_one (l : List (ByteArray × ByteArray)) : ∀ u ∈ attrCells l, u.oneCell' = true := by
  intro u hu
  obtain ⟨x, _, hu⟩ := List.mem_flatMap.1 hu
  simp at hu
  rcases hu with rfl | rfl <;> rfl
theorem attrs_of_row {w : World} {base : Nat} {ao : Option Addr} {n c : Nat} {l : List (ByteArray × ByteArray)} (h : w.ownsRow base 58 2 (.slice ao n c) n (attrCells l)) (hn : n = l.length) (hs : ∀ x, x ∈ l → x.1.size ≤ maxLen ∧ x.2.size ≤ maxLen) : AttrsAt w ao n (nmOf l) (vlOf l) := by
  intro j hj
  rcases h.2 with ⟨_, e⟩ | ⟨g, cap, cur, e, _, hg, hc, _⟩
  · omega
  · cases e
    have hx : l[j]'(by omega) ∈ l := List.getElem_mem _
    have e1 : nmOf l j = (l[j]'(by omega)).1 := by unfold nmOf; rw [List.getD_eq_getElem?_getD, List.getElem?_eq_getElem (by omega)]; rfl
    have e2 : vlOf l j = (l[j]'(by omega)).2 := by unfold vlOf; rw [List.getD_eq_getElem?_getD, List.getElem?_eq_getElem (by omega)]; rfl
    refine ⟨g, 0, rfl, (Array.getElem?_eq_some_iff.1 hg).1, ?_, ?_, by rw [e1]; exact (hs _ hx).1, by rw [e2]; exact (hs _ hx).2⟩
    · rw [Nat.zero_add, h.cellAt (j * 2) (by omega)]
      exact attrCells_get l j 0 (by omega) (by omega)
    · rw [Nat.zero_add, h.cellAt (j * 2 + 1) (by omega)]
      exact attrCells_get l j 1 (by omega) (by omega)
structure TN where
  d : Int
  tag : ByteArray
  key : Int
  text : ByteArray
  ats : List (ByteArray × ByteArray)
  ao : Option Addr
  an : Nat
  ac : Nat
def TN.cells (n : TN) : List Value := [.int .i64 n.d, .string n.tag, .int .i64 n.key, .slice n.ao n.an n.ac, .string n.text]
def tellOf (N : List TN) : List Value := N.flatMap TN.cells
theorem tellOf_length (N : List TN) : (tellOf N).length = N.length * 5 := by
  unfold tellOf
  induction N with
  | nil => rfl
  | cons a N ih => rw [List.flatMap_cons, List.length_append, ih, List.length_cons]; show 5 + _ = _; omega
theorem tellOf_snoc (N : List TN) (n : TN) : tellOf (N ++ [n]) = tellOf N ++ n.cells := by unfold tellOf; simp
theorem TN.cells_one (n : TN) : ∀ u ∈ n.cells, u.oneCell' = true := by
  intro u hu; simp [TN.cells] at hu; rcases hu with rfl | rfl | rfl | rfl | rfl <;> rfl
def TN.av (n : TN) : Value := .slice n.ao n.an n.ac
structure TN.Ok (B : Nat) (w : World) (q : Value) (n : TN) : Prop where
  an : n.an = n.ats.length
  tag : n.tag.size ≤ maxLen
  text : n.text.size ≤ maxLen
  row : w.ownsRow B 58 2 n.av n.an (attrCells n.ats)
  size : ∀ x, x ∈ n.ats → x.1.size ≤ maxLen ∧ x.2.size ≤ maxLen
  ne : n.av.ownBlock = none ∨ n.av.ownBlock ≠ q.ownBlock
structure TellAt (B : Nat) (w : World) (q : Value) (N : List TN) : Prop where
  row : w.ownsRow B 28 5 q N.length (tellOf N)
  node : ∀ n, n ∈ N → n.Ok B w q
  far : N.Pairwise fun m n => n.av.ownBlock = none ∨ n.av.ownBlock ≠ m.av.ownBlock
def tellP (R : List RN) (x : Nat × Int) (n : TN) : Prop := ∃ h : x.1 < R.length, n.d = x.2 ∧ n.tag = R[x.1].tag ∧ n.key = R[x.1].key ∧ n.text = R[x.1].text ∧ n.ats = R[x.1].ats
theorem TellAt.nil (B : Nat) (w : World) : TellAt B w (.slice none 0 0) [] := ⟨World.ownsRow_nil _ _ _ _, fun n h => by simp at h, List.Pairwise.nil⟩
theorem TN.Ok.kept {B : Nat} {w w' : World} {q q' : Value} {n : TN} (h : n.Ok B w q) (hg : Grew w w' q q') : n.Ok B w' q' :=
  ⟨h.an, h.tag, h.text, h.row.kept hg.by h.ne, h.size, grow_ne hg h.ne (own_lt h.row (Nat.le_refl _))⟩
theorem TN.Ok.below {B : Nat} {w w' : World} {q : Value} {n : TN} (h : n.Ok B w q) (hb : Below w.heap.size w w') : n.Ok B w' q :=
  ⟨h.an, h.tag, h.text, ownsRow_below h.row hb, h.size, h.ne⟩
theorem TellAt.below {B : Nat} {w w' : World} {q : Value} {N : List TN} (h : TellAt B w q N) (hb : Below w.heap.size w w') : TellAt B w' q N :=
  ⟨ownsRow_below h.row hb, fun n hn => (h.node n hn).below hb, h.far⟩
theorem own_ge {w : World} {B : Nat} {e : TypeId} {size : Nat} {v : Value} {n : Nat} {xs : List Value} (h : w.ownsRow B e size v n xs) {B' : Nat} (hB : B' ≤ B) : w.ownsRow B' e size v n xs := by
  refine ⟨h.1, h.2.imp id ?_⟩
  rintro ⟨g, cap, cur, e, hb, r⟩
  exact ⟨g, cap, cur, e, Nat.le_trans hB hb, r⟩
theorem own_far {w w1 : World} {B B1 : Nat} {e e1 : TypeId} {size size1 : Nat} {v v1 : Value} {n n1 : Nat} {xs xs1 : List Value} (h : w.ownsRow B e size v n xs) (h1 : w1.ownsRow B1 e1 size1 v1 n1 xs1) (hs : w.heap.size ≤ B1) : v1.ownBlock = none ∨ v1.ownBlock ≠ v.ownBlock := by
  cases hv : v1.ownBlock with
  | none => exact .inl rfl
  | some b =>
    refine .inr fun e => ?_
    have := (h1.lt b hv).1
    have := (h.lt b e.symm).2
    omega
theorem TellAt.more {B : Nat} {w w1 w2 : World} {q q' : Value} {N : List TN} {n : TN} (h : TellAt B w q N) (hB : B ≤ w.heap.size) (hb : Below w.heap.size w w1) (han : n.an = n.ats.length) (htag : n.tag.size ≤ maxLen) (htext : n.text.size ≤ maxLen)
    (hrow : w1.ownsRow w.heap.size 58 2 n.av n.an (attrCells n.ats)) (hsz : ∀ x, x ∈ n.ats → x.1.size ≤ maxLen ∧ x.2.size ≤ maxLen)
    (ho : w2.ownsRow B 28 5 q' (N.length + 1) (tellOf N ++ n.cells)) (hg : Grew w1 w2 q q') : TellAt B w2 q' (N ++ [n]) := by
  have hn : n.Ok B w1 q := ⟨han, htag, htext, own_ge hrow hB, hsz, own_far h.row hrow (Nat.le_refl _)⟩
  refine ⟨?_, fun m hm => ?_, ?_⟩
  · rw [List.length_append, tellOf_snoc]; exact ho
  · rcases List.mem_append.1 hm with hm | hm
    · exact ((h.node m hm).below hb).kept hg
    · have := List.mem_singleton.1 hm
      subst this
      exact hn.kept hg
  · rw [List.pairwise_append]
    refine ⟨h.far, List.pairwise_singleton _ _, fun m hm x hx => ?_⟩
    have := List.mem_singleton.1 hx
    subst this
    exact own_far (h.node m hm).row hrow (Nat.le_refl _)
end Go.Proofs.Ytobgcaemnpkbmaa
namespace Go.Proofs.Ytobgcaemnpkbmaa
open Go.RowKit
attribute [local go_sem ↓] Go.wp_at_zero Go.wp_at_succ
theorem cells_new' (w : World) (xs : Array Value) (t : TypeId) (n : Nat) (hn : n = w.heap.size) : ∀ a, some (⟨n, 0, none⟩ : Addr) = some a → ∀ j u, xs.toList[j]? = some u → (w.alloc (.cells xs t)).cell? (a.add j) = some u := by
  subst hn; exact cells_new w xs t
theorem size_setCell' (w : World) (a : Addr) (u : Value) : (w.setCell a u).heap.size = w.heap.size := by simp [World.setCell]
theorem own_set {w : World} {B : Nat} {e : TypeId} {size : Nat} {v : Value} {n : Nat} {xs : List Value} (h : w.ownsRow B e size v n xs) {a : Addr} {u : Value} (hne : v.ownBlock = none ∨ v.ownBlock ≠ some a.block) : (w.setCell a u).ownsRow B e size v n xs :=
  h.kept (row := some a.block) ⟨rfl, rfl, rfl, by rw [size_setCell']; exact Nat.le_refl _, fun k _ hk => Below.heap_setCell _ _ _ _ (fun e => hk (by rw [e]))⟩ hne
theorem TellAt.base {B B' : Nat} {w : World} {q : Value} {N : List TN} (h : TellAt B w q N) (hB : B' ≤ B) : TellAt B' w q N :=
  ⟨own_ge h.row hB, fun n hn => ⟨(h.node n hn).an, (h.node n hn).tag, (h.node n hn).text, own_ge (h.node n hn).row hB, (h.node n hn).size, (h.node n hn).ne⟩, h.far⟩
theorem own_shape {w : World} {B : Nat} {e : TypeId} {size : Nat} {v : Value} {n : Nat} {xs : List Value} (h : w.ownsRow B e size v n xs) : ∃ ao c, v = .slice ao n c := by
  rcases h.2 with ⟨rfl, rfl⟩ | ⟨g, cap, cur, rfl, _⟩
  · exact ⟨none, 0, rfl⟩
  · exact ⟨_, cap, rfl⟩
end Go.Proofs.Ytobgcaemnpkbmaa
namespace Go.Proofs.Ytobgcaemnpkbmaa
open Go.RowKit
def sameB (a b : ByteArray) : Bool := a.toList == b.toList
def attAt (l : List (ByteArray × ByteArray)) (k : Nat) : ByteArray × ByteArray := l.getD k (ByteArray.empty, ByteArray.empty)
theorem attAt_lt {l : List (ByteArray × ByteArray)} {k : Nat} (h : k < l.length) : attAt l k = l[k] := by
  unfold attAt; rw [List.getD_eq_getElem?_getD, List.getElem?_eq_getElem h]; rfl
def unsetP (l : List (ByteArray × ByteArray)) (nm : ByteArray) : List (ByteArray × ByteArray) := l.filter fun x => !sameB x.1 nm
def setTo (l : List (ByteArray × ByteArray)) (nm vl : ByteArray) : Nat → List (ByteArray × ByteArray) × Bool
  | 0 => ([], false)
  | k + 1 =>
    let r := setTo l nm vl k
    let o := if r.2 = false ∧ Op.bytesLess (attAt l k).1.toList nm.toList = false then r.1 ++ [(nm, vl)] else r.1
    (if sameB (attAt l k).1 nm then o else o ++ [attAt l k], r.2 || !Op.bytesLess (attAt l k).1.toList nm.toList)
def setP (l : List (ByteArray × ByteArray)) (nm vl : ByteArray) : List (ByteArray × ByteArray) := if (setTo l nm vl l.length).2 then (setTo l nm vl l.length).1 else (setTo l nm vl l.length).1 ++ [(nm, vl)]
end Go.Proofs.Ytobgcaemnpkbmaa
namespace Go.Proofs.Ytobgcaemnpkbmaa
open Go.RowKit
def parOf (R : List RN) (id : Int) : Int := parAt R (atP R id).toNat
def inP (R : List RN) : Nat → Int → Int → Bool
  | 0, _, _ => false
  | f + 1, id, other => if id = 0 then false else if id = other then true else inP R f (parOf R id) other
theorem inP_zero (R : List RN) (f : Nat) (o : Int) : inP R f 0 o = false := by cases f <;> simp [inP]
structure Up (R : List RN) (rk : Int → Nat) : Prop where
  par : ∀ n, n ∈ R → n.par = 0 ∨ ∃ m, m ∈ R ∧ m.id = n.par
  rank : ∀ n, n ∈ R → n.par ≠ 0 → rk n.par < rk n.id
end Go.Proofs.Ytobgcaemnpkbmaa
namespace Go.Proofs.Ytobgcaemnpkbmaa
open Go.RowKit
structure Touch (S : Nat → Prop) (w w' : World) : Prop where
  os : w'.os = w.os
  tape : w'.tape = w.tape
  output : w'.output = w.output
  size : w.heap.size ≤ w'.heap.size
  block : ∀ k, k < w.heap.size → ¬ S k → w'.heap[k]? = w.heap[k]?
theorem Touch.of_below {S : Nat → Prop} {w w' : World} (h : Below w.heap.size w w') : Touch S w w' := ⟨h.os, h.tape, h.output, h.size, fun k hk _ => h.block k hk⟩
theorem Touch.trans {S : Nat → Prop} {a b c : World} (h : Touch S a b) (k : Touch (fun b => S b ∨ a.heap.size ≤ b) b c) : Touch S a c :=
  ⟨k.os.trans h.os, k.tape.trans h.tape, k.output.trans h.output, Nat.le_trans h.size k.size, fun i hi hn => (k.block i (Nat.lt_of_lt_of_le hi h.size) (fun e => by rcases e with e | e; exact hn e; omega)).trans (h.block i hi hn)⟩
theorem Touch.mono {S S' : Nat → Prop} {w w' : World} (h : Touch S w w') (hS : ∀ b, b < w.heap.size → S b → S' b) : Touch S' w w' := ⟨h.os, h.tape, h.output, h.size, fun k hk hn => h.block k hk (fun e => hn (hS k hk e))⟩
theorem Touch.set {S : Nat → Prop} {w w' : World} (h : Touch S w w') {a : Addr} (ha : S a.block ∨ w.heap.size ≤ a.block) (u : Value) : Touch S w (w'.setCell a u) :=
  ⟨h.os, h.tape, h.output, by simpa [World.setCell] using h.size, fun k hk hn => (Below.heap_setCell w' a u k (fun e => by rcases ha with ha | ha; exact hn (by rw [e]; exact ha); omega)).trans (h.block k hk hn)⟩
end Go.Proofs.Ytobgcaemnpkbmaa
namespace Go.Proofs.Ytobgcaemnpkbmaa
open Go.RowKit
def andNew (S : Nat → Prop) (w w' : World) : Nat → Prop := fun b => S b ∨ (w.heap.size ≤ b ∧ b < w'.heap.size)
theorem RN.cells_one (n : RN) : ∀ u ∈ n.cells, u.oneCell' = true := by
  intro u hu; simp [RN.cells] at hu; rcases hu with rfl | rfl | rfl | rfl | rfl | rfl <;> rfl
def insTo (R : List RN) (n : RN) (fr : Nat) (bf : Int) : Nat → List RN
  | 0 => []
  | k + 1 => insTo R n fr bf k ++ (if bf ≠ 0 ∧ idAt R k = bf then [n] else []) ++ (if k = fr then [] else (R.drop k).take 1)
def insP (R : List RN) (n : RN) (fr : Nat) (bf : Int) : List RN := insTo R n fr bf R.length ++ (if bf = 0 then [n] else [])
theorem drop_one {R : List RN} {k : Nat} (h : k < R.length) : (R.drop k).take 1 = [R[k]] := by
  rw [List.drop_eq_getElem_cons h]; rfl
end Go.Proofs.Ytobgcaemnpkbmaa
namespace Go.Proofs.Ytobgcaemnpkbmaa
open Go.RowKit
theorem nodePtrInfo : (Try.prog.info? 69).map (fun i => (i.zero, i.size, i.bytes)) = some (some (.pointer none), 1, 8) := by kernel_rfl
def layL (xs : List Value) : Nat → List Value → List Value
  | _, [] => xs
  | o, v :: r => layL (xs.set o v) (o + 1) r
theorem layL_length (xs : List Value) : ∀ (vs : List Value) (o : Nat), (layL xs o vs).length = xs.length := by
  intro vs
  induction vs generalizing xs with
  | nil => intro o; rfl
  | cons v r ih => intro o; rw [layL, ih, List.length_set]
theorem layL_eq (xs : List Value) : ∀ (vs : List Value) (o : Nat), o + vs.length ≤ xs.length → layL xs o vs = xs.take o ++ vs ++ xs.drop (o + vs.length) := by
  intro vs
  induction vs generalizing xs with
  | nil => intro o _; simp [layL]
  | cons v r ih =>
    intro o ho
    rw [List.length_cons] at ho
    rw [layL, ih _ (o + 1) (by rw [List.length_set]; omega)]
    have e1 : (xs.set o v).take (o + 1) = xs.take o ++ [v] := by
      rw [List.take_add_one, List.getElem?_set, if_pos rfl, if_pos (by omega), List.take_set_of_le (Nat.le_refl _)]
      rfl
    have e2 : (xs.set o v).drop (o + 1 + r.length) = xs.drop (o + (v :: r).length) := by
      rw [List.drop_set_of_lt (by omega), List.length_cons]
      congr 1
      omega
    rw [e1, e2]
    simp
theorem ins_list (xs ys u : List Value) (a s : Nat) (ha : a ≤ xs.length) (hu : u.length = s) (hy : ys.length = s) : layL (layL (xs ++ ys) (a + s) (xs.drop a)) a u = xs.take a ++ u ++ xs.drop a := by
  have hl : (xs ++ ys).length = xs.length + s := by rw [List.length_append, hy]
  have hd : (xs.drop a).length = xs.length - a := List.length_drop
  have e1 : (xs ++ ys).drop (a + s + (xs.drop a).length) = [] := List.drop_of_length_le (by omega)
  have e2 : layL (xs ++ ys) (a + s) (xs.drop a) = (xs ++ ys).take (a + s) ++ xs.drop a := by rw [layL_eq _ _ _ (by omega), e1, List.append_nil]
  have ht : ((xs ++ ys).take (a + s)).length = a + s := by rw [List.length_take]; omega
  rw [e2, layL_eq _ _ _ (by rw [List.length_append]; omega), hu]
  have e3 : ((xs ++ ys).take (a + s) ++ xs.drop a).take a = xs.take a := by
    rw [List.take_append_of_le_length (by omega), List.take_take, Nat.min_eq_left (by omega), List.take_append_of_le_length ha]
  have e4 : ((xs ++ ys).take (a + s) ++ xs.drop a).drop (a + s) = xs.drop a := by
    have := List.drop_left (l₁ := (xs ++ ys).take (a + s)) (l₂ := xs.drop a)
    rwa [ht] at this
  rw [e3, e4]
theorem own_setCells {B : Nat} {e : TypeId} {size g n c : Nat} : ∀ (vs : List Value) (o : Nat) {w : World} {xs : List Value}, w.ownsRow B e size (.slice (some ⟨g, 0, none⟩) n c) n xs → (w.setCells g o vs).ownsRow B e size (.slice (some ⟨g, 0, none⟩) n c) n (layL xs o vs) := by
  intro vs
  induction vs with
  | nil => intro o w xs h; exact h
  | cons v r ih => intro o w xs h; exact ih (o + 1) (h.stored o v).1
theorem own_cut {w : World} {B : Nat} {e : TypeId} {size g n c m : Nat} {xs : List Value} (h : w.ownsRow B e size (.slice (some ⟨g, 0, none⟩) n c) n xs) (hm : m ≤ n) : w.ownsRow B e size (.slice (some ⟨g, 0, none⟩) m c) m (xs.take (m * size)) := by
  have hl := h.1
  have hms : m * size ≤ n * size := Nat.mul_le_mul_right size hm
  refine ⟨by rw [List.length_take]; omega, .inr ?_⟩
  rcases h.2 with ⟨e, _⟩ | ⟨g', cap, cur, e, hb, hg, hnc, hcm, hcs, ht⟩
  · simp at e
  · simp only [Value.slice.injEq] at e
    obtain ⟨e1, _, rfl⟩ := e
    cases e1
    refine ⟨g, c, cur, rfl, hb, hg, by omega, hcm, hcs, ?_⟩
    rw [← ht, List.take_take, Nat.min_eq_left hms]
theorem own_more {w : World} {B : Nat} {e : TypeId} {size g n c m : Nat} {xs : List Value} (h : w.ownsRow B e size (.slice (some ⟨g, 0, none⟩) n c) n xs) (hm : n ≤ m) (hc : m ≤ c) : ∃ ys, ys.length = (m - n) * size ∧ w.ownsRow B e size (.slice (some ⟨g, 0, none⟩) m c) m (xs ++ ys) := by
  have hl := h.1
  rcases h.2 with ⟨e, _⟩ | ⟨g', cap, cur, e, hb, hg, hnc, hcm, hcs, ht⟩
  · simp at e
  · simp only [Value.slice.injEq] at e
    obtain ⟨e1, _, rfl⟩ := e
    cases e1
    have hms : n * size ≤ m * size := Nat.mul_le_mul_right size hm
    have hmc : m * size ≤ c * size := Nat.mul_le_mul_right size hc
    have hcl : cur.toList.length = cur.size := Array.length_toList
    refine ⟨(cur.toList.take (m * size)).drop (n * size), by rw [List.length_drop, List.length_take, hcl, hcs, Nat.min_eq_left hmc, Nat.sub_mul], ?_, .inr ⟨g, c, cur, rfl, hb, hg, hc, hcm, hcs, ?_⟩⟩
    · rw [List.length_append, List.length_drop, List.length_take, hcl, hcs, Nat.min_eq_left hmc, hl]; omega
    · rw [← ht]
      have : cur.toList.take (n * size) = (cur.toList.take (m * size)).take (n * size) := by rw [List.take_take, Nat.min_eq_left hms]
      rw [this, List.take_append_drop]
theorem own_plain {w : World} {B : Nat} {e : TypeId} {size g n c : Nat} {xs : List Value} (h : w.ownsRow B e size (.slice (some ⟨g, 0, none⟩) n c) n xs) : ∃ cur, w.heap[g]? = some (.cells cur e (0, 0)) ∧ cur.size = c * size ∧ n ≤ c ∧ c ≤ maxLen := by
  rcases h.2 with ⟨e, _⟩ | ⟨g', cap, cur, e, hb, hg, hnc, hcm, hcs, ht⟩
  · simp at e
  · simp only [Value.slice.injEq] at e
    obtain ⟨e1, _, rfl⟩ := e
    cases e1
    exact ⟨cur, hg, hcs, hnc, hcm⟩
theorem setCells_grown (b : Nat) : ∀ (vs : List Value) (o : Nat) (w : World), w.grownBy (w.setCells b o vs) (some b) ∧ (w.setCells b o vs).heap.size = w.heap.size := by
  intro vs
  induction vs with
  | nil => intro o w; exact ⟨⟨rfl, rfl, rfl, Nat.le_refl _, fun _ _ _ => rfl⟩, rfl⟩
  | cons v r ih =>
    intro o w
    obtain ⟨h, hs⟩ := ih (o + 1) (w.setCell ⟨b, o, none⟩ v)
    have hz : (w.setCell ⟨b, o, none⟩ v).heap.size = w.heap.size := size_setCell' _ _ _
    refine ⟨⟨h.os, h.tape, h.output, by rw [World.setCells, hs, hz]; exact Nat.le_refl _, fun k hk hn => ?_⟩, by rw [World.setCells, hs, hz]⟩
    exact (h.block k (by rw [hz]; exact hk) hn).trans (Below.heap_setCell w ⟨b, o, none⟩ v k (fun e => hn (by rw [e])))
theorem heap_setCells_drew (b o : Nat) (vs : List Value) (w : World) : (w.drew.setCells b o vs).heap = (w.setCells b o vs).heap := by
  rw [← drew_setCells]
  rfl
theorem own_heap {w w' : World} {base : Nat} {e : TypeId} {size : Nat} {v : Value} {n : Nat} {xs : List Value} (h : w.ownsRow base e size v n xs) (hb : ∀ b, v.ownBlock = some b → w'.heap[b]? = w.heap[b]?) : w'.ownsRow base e size v n xs := by
  refine ⟨h.1, ?_⟩
  rcases h.2 with hn | ⟨g, cap, cur, rfl, hg, hgg, rest⟩
  · exact .inl hn
  · exact .inr ⟨g, cap, cur, rfl, hg, (hb g rfl).trans hgg, rest⟩
theorem run_copy_cellsK {P : Program} (w : World) (dT sT ty elem : TypeId) (size : Nat) (b o dLen dCap : Nat) (a : Addr) (sLen sCap : Nat) (cs : List Value)
    (hu : P.underlying dT = some (.slice elem)) (hs : (P.info? elem).map (·.size) = some size) (hn : cs.length = Nat.min sLen dLen * size)
    (hsrc : ∀ j v, cs[j]? = some v → w.cell? (a.add j) = some v) (hc : ∀ j, j < cs.length → (w.cell? ⟨b, o + j, none⟩).isSome = true) (hf : ∀ j, j < cs.length → w.frozen? ⟨b, o + j, none⟩ = false) (h1 : ∀ v ∈ cs, v.oneCell' = true) :
    (Builtin.copy_ #[dT, sT] ty #[.slice (some ⟨b, o, none⟩) dLen dCap, .slice (some a) sLen sCap]).run P w = .ok (goInt (Nat.min sLen dLen)) (w.setCells b o cs) := by
  have hl := run_loadCells_list (P := P) w a cs hsrc
  have hst := run_storeCells_cells (P := P) b o cs 0 w (by simpa using hc) (by simpa using hf) h1
  cases hq : P.info? elem with
  | none => simp [hq] at hs
  | some i =>
    have hi : i.size = size := by simpa [hq] using hs
    rw [hn] at hl
    simp [Builtin.copy_, run_underlying hu, Builtin.lenOf, Builtin.firstCells, sizeOf, typeInfo, hq, hi, hl, hst]
theorem run_clear_one {P : Program} (w : World) (t e ty : TypeId) (z : Value) (zs : List Value) (ht : P.underlying t = some (.slice e)) (hv : ∀ w, (zeroValue e).run P w = .ok z w) (hz : z.cells = zs.toArray) (_h0 : 0 < zs.length) (h1 : ∀ v ∈ zs, v.oneCell' = true) (b o c : Nat)
    (hc : ∀ j, j < zs.length → (w.cell? ⟨b, o + j, none⟩).isSome = true) (hf : ∀ j, j < zs.length → w.frozen? ⟨b, o + j, none⟩ = false) :
    (Builtin.clear_ #[t] ty #[.slice (some ⟨b, o, none⟩) 1 c]).run P w = .ok (.tuple #[]) (w.setCells b o zs) := by
  have hzc : (Builtin.zeroCells z.cells 1).toList = zs := by
    rw [hz]
    simp only [Builtin.zeroCells, Nat.one_mul, List.size_toArray]
    apply List.ext_getElem
    · simp
    · intro i h1 h2
      simp only [Array.toList_map, Array.toList_range, List.getElem_map, List.getElem_range]
      rw [Nat.mod_eq_of_lt h2, getElem!_pos zs.toArray i (by simpa using h2)]
      simp
  have hst := run_storeCells_cells (P := P) b o zs 0 w (by simpa using hc) (by simpa using hf) h1
  simp only [Nat.add_zero] at hst
  simp [Builtin.clear_, run_underlying ht, hv, hzc, hst]
end Go.Proofs.Ytobgcaemnpkbmaa
namespace Go.Proofs.Ytobgcaemnpkbmaa
open Go.RowKit
open Go.Maps (Keyed int_keyed keyOf_int_mk)
theorem intKeyed : Keyed Try.prog 3 := int_keyed Try.underlying3
def heldElem (v : Value) : Option (DataW Value × List MemPlace) := some (.held v, [])
def ptrOpt (x : Option Nat) : Value := .pointer (x.map fun b => ⟨b, 0, none⟩)
def I64 (i : Int) : Prop := -9223372036854775808 ≤ i ∧ i ≤ 9223372036854775807
theorem wf_of {i : Int} (h : I64 i) : (Lit.int .i64 i).wf = true := by
  obtain ⟨h1, h2⟩ := h
  have e1 : IntKind.i64.min = -9223372036854775808 := rfl
  have e2 : IntKind.i64.max = 9223372036854775807 := rfl
  simp [Lit.wf, e1, e2]
  omega
def MapAt (w : World) (mb : Nat) (f : Int → Option Nat) (N : Nat) : Prop :=
  ∃ D : DataW Value, w.ownsMap Try.prog 3 heldElem mb N D ∧ Go.Maps.size D = N ∧ ∀ i, I64 i → Go.Maps.has D (.int .i64 i) = (f i).isSome ∧ D.atKey (.int .i64 i) (.held (.pointer none)) = .held (ptrOpt (f i))
theorem MapAt.heap {w w' : World} {mb : Nat} {f : Int → Option Nat} {N : Nat} (h : MapAt w mb f N) (hb : w'.heap[mb]? = w.heap[mb]?) : MapAt w' mb f N := by
  obtain ⟨D, ⟨es, clock, h1, h2⟩, hs, hf⟩ := h
  exact ⟨D, ⟨es, clock, hb.trans h1, h2⟩, hs, hf⟩
theorem MapAt.lt {w : World} {mb : Nat} {f : Int → Option Nat} {N : Nat} (h : MapAt w mb f N) : mb < w.heap.size := by obtain ⟨D, h, _⟩ := h; exact h.lt
theorem MapAt.made (w : World) : MapAt (w.alloc (.map #[] 0)) w.heap.size (fun _ => none) 0 :=
  ⟨.map [], World.ownsMap_made w _ _ _, rfl, fun _i _ => ⟨rfl, rfl⟩⟩
theorem MapAt.look {w : World} {mb : Nat} {f : Int → Option Nat} {N : Nat} (h : MapAt w mb f N) {i : Int} (hi : I64 i) : (Instr.lookup 68 (.map (some mb)) (.int .i64 i) false).run Try.prog w = .ok (ptrOpt (f i)) w := by
  obtain ⟨D, hD, _, hf⟩ := h
  obtain ⟨v, ps, hr, hv⟩ := hD.lookup intKeyed Try.underlying68 (Try.zeroValue69 w) (zd := .held (.pointer none)) (zp := []) rfl (keyOf_int_mk Try.underlying3 (wf_of hi))
  rw [(hf i hi).2] at hv
  unfold heldElem at hv
  simp at hv
  rw [hr, hv.1]
theorem MapAt.len {w : World} {mb : Nat} {f : Int → Option Nat} {N : Nat} (h : MapAt w mb f N) (ty : TypeId) : (Builtin.len_ #[68] ty #[.map (some mb)]).run Try.prog w = .ok (.int .i64 N) w := by
  obtain ⟨D, hD, hs, _⟩ := h
  rw [hD.len Try.underlying68 ty, hs]
theorem ownsMap_exact {w : World} {mb n : Nat} {D : DataW Value} (h : w.ownsMap Try.prog 3 heldElem mb n D) : w.ownsMap Try.prog 3 heldElem mb (Go.Maps.size D) D := by
  obtain ⟨es, clock, hb, F, hs, rfl⟩ := h
  refine ⟨es, clock, hb, F, ?_, rfl⟩
  simp [Go.Maps.size, length_sorted]
theorem wpList_map_put {mb : Nat} {f : Int → Option Nat} {N : Nat} (w : World) {ops : Array Oper} {rest : List Oper} {o : Oper} {a : Act} {Q : Exit → Act → World → Prop}
    (hg : o.guard = none) (m x v : Operand) (hop : o.op = Op.mapUpdate 68 m x v) (hm : a.eval m = .map (some mb)) (h : MapAt w mb f N) (hN : N < maxLen) (i : Int) (b : Nat) (hi : I64 i) (hx : a.eval x = .int .i64 i) (hv : a.eval v = .pointer (some ⟨b, 0, none⟩)) (hn : f i = none)
    (hK : ∀ w', Hid (MapAt w' mb (fun j => if j = i then some b else f j) (N + 1)) → Hid (w.grownBy w' (some mb)) → w'.heap.size = w.heap.size → wpList Try.prog ops Q rest (a.put o.dst undef) w') : wpList Try.prog ops Q (o :: rest) a w := by
  obtain ⟨D, hD, hs, hf⟩ := h
  refine wpList_mapUpdate_in w hg m x v _ hop 3 69 intKeyed Try.underlying68 heldElem mb N D hm hD hN _ _ (.int .i64 i) hx hv (keyOf_int_mk Try.underlying3 (wf_of hi)) (.held (.pointer (some ⟨b, 0, none⟩))) [] rfl ?_
  intro w' hown hturn
  have hg := hturn.grown
  have hsz : w'.heap.size = w.heap.size := by
    obtain ⟨es, cl, es', cl', _, rfl⟩ := hturn
    simp [Go.ChangeMaps.setBlock]
  have hsize : Go.Maps.size (D.put (.int .i64 i) (.held (.pointer (some ⟨b, 0, none⟩)))) = N + 1 := by
    rw [Go.Maps.size_put (hD.tidy intKeyed), (hf i hi).1, hn, hs]; rfl
  refine hK w' (hide ⟨_, by have := ownsMap_exact hown; rwa [hsize] at this, hsize, fun j hj => ?_⟩) (hide hg) hsz
  simp only []
  by_cases e : j = i
  · subst e
    rw [if_pos rfl, Go.Maps.has_put_same (k := .int .i64 j) hD.isMap trivial, Go.Maps.atKey_put_same (k := .int .i64 j) hD.isMap trivial]
    exact ⟨rfl, rfl⟩
  · rw [if_neg e, Go.Maps.has_put_other (by simpa using e), Go.Maps.atKey_put_other (by simpa using e)]
    exact hf j hj
theorem wpList_map_del {mb : Nat} {f : Int → Option Nat} {N : Nat} (w : World) {ops : Array Oper} {rest : List Oper} {o : Oper} {a : Act} {Q : Exit → Act → World → Prop}
    (hg : o.guard = none) (m x : Operand) (hop : o.op = Op.call { callee := Callee.builtin Builtin.delete, args := #[m, x], argTypes := #[68, 3] }) (hm : a.eval m = .map (some mb)) (h : MapAt w mb f N) (i : Int) (hi : I64 i) (hx : a.eval x = .int .i64 i) (hn : (f i).isSome = true)
    (hK : ∀ w', Hid (MapAt w' mb (fun j => if j = i then none else f j) (N - 1)) → Hid (w.grownBy w' (some mb)) → w'.heap.size = w.heap.size → wpList Try.prog ops Q rest (a.put o.dst (.tuple #[])) w') : wpList Try.prog ops Q (o :: rest) a w := by
  obtain ⟨D, hD, hs, hf⟩ := h
  refine wpList_delete_own w hg m x _ _ hop 69 intKeyed Try.underlying68 heldElem mb N D hm hD _ (.int .i64 i) hx (keyOf_int_mk Try.underlying3 (wf_of hi)) ?_
  intro w' hown hturn
  have hg := hturn.grown
  have hsz : w'.heap.size = w.heap.size := by
    obtain ⟨es, cl, es', cl', _, rfl⟩ := hturn
    simp [Go.ChangeMaps.setBlock]
  have hsize : Go.Maps.size (D.del (.int .i64 i)) = N - 1 := by
    have := Go.Maps.size_del (k := .int .i64 i) (hD.tidy intKeyed)
    rw [(hf i hi).1, hn, hs] at this
    simp at this
    omega
  refine hK w' (hide ⟨_, by have := ownsMap_exact hown; rwa [hsize] at this, hsize, fun j hj => ?_⟩) (hide hg) hsz
  simp only []
  by_cases e : j = i
  · subst e
    rw [if_pos rfl, Go.Maps.has_del_same, Go.Maps.atKey_del_same]
    exact ⟨rfl, rfl⟩
  · rw [if_neg e, Go.Maps.has_del_other (by simpa using e), Go.Maps.atKey_del_other (by simpa using e)]
    exact hf j hj
end Go.Proofs.Ytobgcaemnpkbmaa
