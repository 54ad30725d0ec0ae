/- Pnf Pnw Wra Nok Bre -/
import Derived.Test.YtobgcaemnpkbmaaGreatD33
import Derived.Test.YtobgcaemnpkbmaaGreatD34
import Derived.Carry
import Derived.Test.YtobgcaemnpkbmaaGreatD02
namespace Go.Proofs.YtobgcaemnpkbmaaGreat
open Go.RowKit
def rnOf (L : Nat → Nod) (i : Nat) : RN := { id := (i : Int) + 1, par := parP L i, tag := (L i).t, key := (L i).k, text := (L i).x, ats := atsOf (L i), ao := none, an := 0, ac := 0 }
def madeR (L : Nat → Nod) (k : Nat) : List RN := (List.range k).map (rnOf L)
theorem madeR_length (L : Nat → Nod) (k : Nat) : (madeR L k).length = k := by unfold madeR; simp
theorem madeR_succ (L : Nat → Nod) (k : Nat) : madeR L (k + 1) = madeR L k ++ [rnOf L k] := by unfold madeR; rw [List.range_succ, List.map_append]; rfl
theorem madeR_get {L : Nat → Nod} {k i : Nat} (h : i < (madeR L k).length) : (madeR L k)[i] = rnOf L i := by
  have h1 : (madeR L k)[i]? = some (rnOf L i) := by
    unfold madeR
    rw [List.getElem?_map, List.getElem?_range (by rwa [madeR_length] at h)]
    rfl
  rw [List.getElem?_eq_getElem h] at h1
  exact Option.some.inj h1
theorem parentOf_lt (L : Nat → Nod) (i : Nat) : ∀ j, -1 ≤ parentOf L i j ∧ parentOf L i j < (j : Int) := by
  intro j
  induction j with
  | zero => exact ⟨Int.le_refl _, by show (-1 : Int) < 0; omega⟩
  | succ j ih =>
    rw [parentOf]
    split
    · exact ⟨by omega, by omega⟩
    · exact ⟨ih.1, by omega⟩
theorem madeR_ids (L : Nat → Nod) (k : Nat) : Ids (madeR L k) where
  pos := fun n hn => by
    obtain ⟨i, hi, rfl⟩ := List.getElem_of_mem hn
    rw [madeR_get]
    show (0 : Int) < (i : Int) + 1
    omega
  inj := fun i j hi hj e => by
    rw [madeR_get, madeR_get] at e
    have e : (i : Int) + 1 = (j : Int) + 1 := e
    omega
theorem madeR_top (L : Nat → Nod) (k : Nat) : ∀ n, n ∈ madeR L k → n.id ≤ (k : Int) ∧ 0 ≤ n.par ∧ n.par ≤ (k : Int) := fun n hn => by
  obtain ⟨i, hi, rfl⟩ := List.getElem_of_mem hn
  rw [madeR_get]
  rw [madeR_length] at hi
  have h1 := parentOf_lt L i i
  refine ⟨by show (i : Int) + 1 ≤ k; omega, ?_, ?_⟩
  · show 0 ≤ parP L i
    unfold parP
    split <;> omega
  · show parP L i ≤ k
    unfold parP
    split <;> omega
theorem insTo_back (R : List RN) (x n : RN) : ∀ k, k ≤ R.length → insTo (R ++ [x]) n R.length 0 k = R.take k := by
  intro k
  induction k with
  | zero => intro _; rfl
  | succ k ih =>
    intro hk
    have hlt : k < R.length := hk
    have hd : ((R ++ [x]).drop k).take 1 = [R[k]] := by
      rw [List.drop_append_of_le_length (by omega), List.drop_eq_getElem_cons hlt]
      rfl
    rw [insTo, ih (by omega), if_neg (by simp), if_neg (by omega), hd, List.append_nil, take_one hlt]
theorem insP_back (R : List RN) (x n : RN) : insP (R ++ [x]) n R.length 0 = R ++ [n] := by
  unfold insP
  have e : (R ++ [x]).length = R.length + 1 := by simp
  rw [e, insTo, insTo_back R x n _ (Nat.le_refl _), if_neg (by simp), if_pos rfl, if_pos rfl, List.take_length]
  simp
def abvAt (nb : Int → Nat) (L : Nat → Nod) (e : Int) : Nat → Value
  | 0 => .pointer none
  | j + 1 => if (L j).d = e then .pointer (some ⟨nb ((j : Int) + 1), 0, none⟩) else abvAt nb L e j
theorem abv_congr {nb nb' : Int → Nat} {L : Nat → Nod} {e : Int} : ∀ {k : Nat}, (∀ i : Int, i ≤ (k : Int) → nb' i = nb i) → abvAt nb' L e k = abvAt nb L e k := by
  intro k
  induction k with
  | zero => intro _; rfl
  | succ k ih =>
    intro h
    rw [abvAt, abvAt, h _ (by omega), ih fun i hi => h i (by omega)]
theorem abv_par {nb : Int → Nat} {L : Nat → Nod} {i : Nat} : ∀ {k : Nat}, 0 ≤ parentOf L i k → abvAt nb L ((L i).d - 1) k = .pointer (some ⟨nb (parentOf L i k + 1), 0, none⟩) := by
  intro k
  induction k with
  | zero => intro h; exact absurd h (by show ¬ (0 : Int) ≤ -1; omega)
  | succ k ih =>
    rw [parentOf, abvAt]
    by_cases e : (L k).d = (L i).d - 1
    · rw [if_pos e, if_pos e]; intro _; rfl
    · rw [if_neg e, if_neg e]; exact ih
theorem Touch.setCell (w : World) (a : Addr) (v : Value) : Touch (fun b => b = a.block) w (w.setCell a v) :=
  ⟨rfl, rfl, rfl, by rw [size_setCell']; exact Nat.le_refl _, fun b _ hn => Below.heap_setCell _ _ _ _ hn⟩
theorem Dom.rooted {ρ : Roles} {nb : Int → Nat} {mb : Nat} {rt : Option Nat} {w : World} {q : Nat} {R : List RN} {last : Int} (h : Dom ρ nb mb rt w q R last) (hI : Ids R) (b : Nat) : Dom ρ nb mb (some b) (w.setCell ⟨q, 0, none⟩ (.pointer (some ⟨b, 0, none⟩))) q R last where
  blk := set_blk h.blk _
  role := h.role
  mrole := h.mrole
  map := h.map.heap (Below.heap_setCell _ _ _ _ fun e => by
    have e : mb = q := e
    have h1 := h.mrole
    rw [e, h.role] at h1
    have := (Prod.mk.inj (Option.some.inj h1)).2
    omega)
  node := fun n hn => by
    obtain ⟨av, kv, hp⟩ := h.node n hn
    refine ⟨av, kv, hp.kept (fun b j e => Below.heap_setCell _ _ _ _ fun e' => ?_) (fun _ _ => rfl) rfl⟩
    have e' : b = q := e'
    rw [e', h.role] at e
    have := (Prod.mk.inj (Option.some.inj e)).1
    have := hI.pos n hn
    omega
  low := fun b e => by rw [size_setCell']; exact h.low b e
  few := h.few
end Go.Proofs.YtobgcaemnpkbmaaGreat
namespace Go.Proofs.YtobgcaemnpkbmaaGreat
open Go.RowKit
def NewInv (L : Nat → Nod) (w : World) (mb q AB k : Nat) (wr : World) : Prop :=
  ∃ ρ nb, Dom ρ nb mb (if k = 0 then none else some (nb 1)) wr q (madeR L k) k ∧ (∀ b, (ρ b).isSome = true → w.heap.size ≤ b) ∧ ρ AB = none ∧ AB < wr.heap.size ∧ (∀ e : Nat, e < 12 → wr.cell? ⟨AB, e, none⟩ = some (abvAt nb L e k)) ∧ (∀ e, wr.frozen? ⟨AB, e, none⟩ = false) ∧ w.heap.size ≤ AB ∧ Below w.heap.size w wr
structure NewOk (L : Nat → Nod) (n : Nat) : Prop where
  zero : (L 0).d = 0
  deep : ∀ i, i < n → 0 < i → 1 ≤ (L i).d ∧ (L i).d ≤ 11
  par : ∀ i, i < n → 0 < i → 0 ≤ parentOf L i i
  an : ∀ i, i < n → (L i).an ≤ 5
  rise : ∀ i, i < n → Rises (atsOf (L i))
  tag : ∀ i, i < n → (L i).t.size ≤ 1000000
  text : ∀ i, i < n → (L i).x.size ≤ 1000000
  att : ∀ i, i < n → ∀ x, x ∈ atsOf (L i) → x.1.size ≤ 1000000 ∧ x.2.size ≤ 1000000
theorem below_wrote {ρ ρ' : Roles} {w wr w2 : World} (hb : Below w.heap.size w wr) (hw : Wrote ρ ρ' wr w2) (hρ : ∀ b, (ρ b).isSome = true → w.heap.size ≤ b) : Below w.heap.size w w2 :=
  ⟨hw.1.os.trans hb.os, hw.1.tape.trans hb.tape, hw.1.output.trans hb.output, Nat.le_trans hb.size hw.1.size, fun b hlt => (hw.1.block b (Nat.lt_of_lt_of_le hlt hb.size) fun e => by have := hρ b e; omega).trans (hb.block b hlt)⟩
theorem alloc3 (w : World) (o1 o2 o3 : Obj) : (((w.alloc o1).alloc o2).alloc o3).heap[w.heap.size]? = some o1 ∧ (((w.alloc o1).alloc o2).alloc o3).heap[w.heap.size + 1]? = some o2 ∧ (((w.alloc o1).alloc o2).alloc o3).heap[w.heap.size + 1 + 1]? = some o3 := by
  have s1 : (w.alloc o1).heap.size = w.heap.size + 1 := by simp
  have s2 : ((w.alloc o1).alloc o2).heap.size = w.heap.size + 1 + 1 := by simp
  have n1 := heap_alloc_new w o1
  have n2 := heap_alloc_new (w.alloc o1) o2
  have n3 := heap_alloc_new ((w.alloc o1).alloc o2) o3
  rw [s1] at n2
  rw [s2] at n3
  have b3 := (Below.refl ((w.alloc o1).alloc o2).heap.size ((w.alloc o1).alloc o2)).alloc (Nat.le_refl _) o3
  have b2 := (Below.refl (w.alloc o1).heap.size (w.alloc o1)).alloc (Nat.le_refl _) o2
  exact ⟨(b3.block _ (by omega)).trans ((b2.block _ (by omega)).trans n1), (b3.block _ (by omega)).trans n2, n3⟩
def NewMid (L : Nat → Nod) (w : World) (mb q AB k : Nat) (nb : Int → Nat) (x : RN) (w4 : World) : Prop :=
  ∃ ρ rt, Dom ρ nb mb rt w4 q (madeR L k ++ [x]) ((k : Int) + 1) ∧ (k ≠ 0 → rt = some (nb 1)) ∧ (∀ b, (ρ b).isSome = true → w.heap.size ≤ b) ∧ ρ AB = none ∧ AB < w4.heap.size ∧ (∀ e : Nat, e < 12 → w4.cell? ⟨AB, e, none⟩ = some (abvAt nb L e (k + 1))) ∧ (∀ e, w4.frozen? ⟨AB, e, none⟩ = false) ∧ w.heap.size ≤ AB ∧ Below w.heap.size w w4
theorem NewMid.of {L : Nat → Nod} {w wr w2 w3 : World} {mb q AB k : Nat} {ρ ρ' : Roles} {nb nb' : Int → Nat} {x : RN} {e : Nat} (hD : Dom ρ' nb' mb (if k = 0 then none else some (nb 1)) w3 q (madeR L k ++ [x]) ((k : Int) + 1)) (hρ : ∀ b, (ρ b).isSome = true → w.heap.size ≤ b) (hρA : ρ AB = none) (hAlt : AB < wr.heap.size) (hcell : ∀ e : Nat, e < 12 → wr.cell? ⟨AB, e, none⟩ = some (abvAt nb L e k)) (hfrz : ∀ e, wr.frozen? ⟨AB, e, none⟩ = false) (hAB : w.heap.size ≤ AB) (hb : Below w.heap.size w wr)
    (hb2 : Below wr.heap.size wr w2) (hw : Wrote ρ ρ' w2 w3) (hnb : ∀ i, i ≠ (k : Int) + 1 → nb' i = nb i) (he : (L k).d = (e : Int)) (he12 : e < 12) : NewMid L w mb q AB k nb' x (w3.setCell ⟨AB, e, none⟩ (.pointer (some ⟨nb' ((k : Int) + 1), 0, none⟩))) := by
  have s2 := hb2.size
  have sb := hb.size
  have s3 := hw.1.size
  have hA3 : w3.heap[AB]? = wr.heap[AB]? := (hw.1.block AB (by omega) (by rw [hρA]; simp)).trans (hb2.block AB hAlt)
  have hρ' : ∀ b, (ρ' b).isSome = true → w.heap.size ≤ b := fun b hs => by
    rcases hw.2.2 b hs with h | h
    · exact hρ b h
    · omega
  have hρA' : ρ' AB = none := by
    cases hx : ρ' AB with
    | none => rfl
    | some y =>
      rcases hw.2.2 AB (by rw [hx]; rfl) with h | h
      · rw [hρA] at h; cases h
      · omega
  have hbw3 : Below w.heap.size w w3 := below_wrote (hb.trans (hb2.mono hb.size)) hw hρ
  have ht := Touch.setCell w3 ⟨AB, e, none⟩ (.pointer (some ⟨nb' ((k : Int) + 1), 0, none⟩))
  refine ⟨ρ', _, hD.touch ht (fun b hs hab => ?_), fun h0 => ?_, hρ', hρA', by rw [size_setCell']; omega, fun e' he' => ?_, fun e' => ?_, hAB, ?_⟩
  · have hab : b = AB := hab
    rw [hab, hρA'] at hs
    cases hs
  · rw [if_neg h0, hnb 1 (by omega)]
  · have hc : w3.cell? ⟨AB, e', none⟩ = some (abvAt nb L e' k) := (World.cell?_of_block hA3).trans (hcell e' he')
    rw [abvAt]
    by_cases hee : e' = e
    · subst hee
      rw [if_pos he]
      exact World.cell?_setCell_same _ _ _ hc
    · rw [if_neg (by rw [he]; omega), World.cell?_setCell_other _ _ _ _ (fun h => hee (by cases h; rfl)), hc, abv_congr fun i hi => hnb i (by omega)]
  · rw [World.frozen?_setCell, frozen_heap hA3]
    exact hfrz e'
  · exact ⟨hbw3.os, hbw3.tape, hbw3.output, by rw [size_setCell']; exact hbw3.size, fun b hlt => (Below.heap_setCell _ _ _ _ fun e => by have e : b = AB := e; omega).trans (hbw3.block b hlt)⟩
theorem new_root {L : Nat → Nod} {w w4 : World} {mb q AB : Nat} {nb : Int → Nat} (hqA : q ≠ AB) (h : NewMid L w mb q AB 0 nb { rnOf L 0 with par := 0 } w4) : NewInv L w mb q AB 1 (w4.setCell ⟨q, 0, none⟩ (.pointer (some ⟨nb 1, 0, none⟩))) := by
  obtain ⟨ρ, rt, hD, _, hρ, hρA, hAlt, hcell, hfrz, hAB, hb⟩ := h
  have e1 : madeR L 0 ++ [{ rnOf L 0 with par := 0 }] = madeR L 1 := rfl
  rw [e1] at hD
  have hqw := hρ q (by rw [hD.role]; rfl)
  refine ⟨ρ, nb, ?_, hρ, hρA, by rw [size_setCell']; exact hAlt, fun e he => ?_, fun e => ?_, hAB, ?_⟩
  · rw [if_neg (by omega)]
    exact hD.rooted (madeR_ids L 1) (nb 1)
  · rw [World.cell?_setCell_other _ _ _ _ (fun h => hqA (by cases h; rfl))]
    exact hcell e he
  · rw [World.frozen?_setCell]; exact hfrz e
  · exact ⟨hb.os, hb.tape, hb.output, by rw [size_setCell']; exact hb.size, fun b hlt => (Below.heap_setCell _ _ _ _ fun e => by have e : b = q := e; omega).trans (hb.block b hlt)⟩
theorem new_take {L : Nat → Nod} {w w4 : World} {mb q AB k : Nat} {nb : Int → Nat} (hk : k ≠ 0) (hp : 0 ≤ parentOf L k k) (h : NewMid L w mb q AB k nb { rnOf L k with par := 0 } w4) :
    Calls Tryz.prog 44 #[.pointer (some ⟨nb (parentOf L k k + 1), 0, none⟩), .pointer (some ⟨nb ((k : Int) + 1), 0, none⟩), .pointer none] w4 fun e w5 => e = .returned (.tuple #[]) ∧ NewInv L w mb q AB (k + 1) w5 := by
  obtain ⟨ρ, rt, hD, hrt, hρ, hρA, hAlt, hcell, hfrz, hAB, hb⟩ := h
  have hrt := hrt hk
  subst hrt
  have hpl := (parentOf_lt L k k).2
  have hl : (madeR L k ++ [{ rnOf L k with par := 0 }]).length = k + 1 := by rw [List.length_append, madeR_length]; rfl
  have hkl : k < (madeR L k ++ [{ rnOf L k with par := 0 }]).length := by omega
  have htl : (parentOf L k k).toNat < (madeR L k ++ [{ rnOf L k with par := 0 }]).length := by omega
  have gk : (madeR L k ++ [{ rnOf L k with par := 0 }])[k] = { rnOf L k with par := 0 } := by
    rw [List.getElem_append_right (by rw [madeR_length]; exact Nat.le_refl _)]
    simp [madeR_length]
  have gt : (madeR L k ++ [{ rnOf L k with par := 0 }])[(parentOf L k k).toNat].id = parentOf L k k + 1 := by
    rw [List.getElem_append_left (by rw [madeR_length]; omega), madeR_get]
    show (((parentOf L k k).toNat : Nat) : Int) + 1 = _
    omega
  have hids : Ids (madeR L k ++ [{ rnOf L k with par := 0 }]) := more_ids (madeR_ids L k) (by show (0 : Int) < (k : Int) + 1; omega) fun m hm => by
    have := (madeR_top L k m hm).1
    show m.id < (k : Int) + 1
    omega
  have ht := take_last ρ nb mb _ w4 q _ _ hD hids k (parentOf L k k).toNat hkl htl (by rw [gt, gk]; show parentOf L k k + 1 ≠ (k : Int) + 1; omega) (by rw [gk])
  rw [gt, gk] at ht
  have e1 : insP (madeR L k ++ [{ rnOf L k with par := 0 }]) { rnOf L k with par := parentOf L k k + 1 } k 0 = madeR L (k + 1) := by
    have := insP_back (madeR L k) { rnOf L k with par := 0 } { rnOf L k with par := parentOf L k k + 1 }
    rw [madeR_length] at this
    rw [this, madeR_succ]
    have : parP L k = parentOf L k k + 1 := by unfold parP; rw [if_neg hk]
    unfold rnOf
    rw [this]
  refine ht.mono ?_
  rintro e w5 ⟨rfl, ρ', hw, hd⟩
  refine ⟨rfl, ρ', nb, ?_, fun b hs => ?_, ?_, Nat.lt_of_lt_of_le hAlt hw.1.size, fun e he => ?_, fun e => ?_, hAB, below_wrote hb hw hρ⟩
  · rw [if_neg (by omega)]
    have hd' := hd
    rw [show ({ ({ rnOf L k with par := 0 } : RN) with par := parentOf L k k + 1 } : RN) = { rnOf L k with par := parentOf L k k + 1 } from rfl, e1] at hd'
    exact hd'
  · rcases hw.2.2 b hs with h | h
    · exact hρ b h
    · have := hb.size; omega
  · cases hx : ρ' AB with
    | none => rfl
    | some y =>
      rcases hw.2.2 AB (by rw [hx]; rfl) with h | h
      · rw [hρA] at h; cases h
      · omega
  · rw [World.cell?_of_block (hw.1.block AB hAlt (by rw [hρA]; simp))]
    exact hcell e he
  · rw [frozen_heap (hw.1.block AB hAlt (by rw [hρA]; simp))]
    exact hfrz e
set_option maxHeartbeats 4000000 in
set_option maxRecDepth 100000 in
theorem pnew_ok (b o n c : Nat) (L : Nat → Nod) (w : World) (hn0 : 0 < n) (hn : n ≤ 400) (H : NodesAt w b o n L) (hL : NewOk L n) (HC : Hid (Calls Tryz.prog 42 #[.slice (some ⟨b, o, none⟩) n c] w fun e w' => e = .returned (.tuple #[.int .i64 0, .int .i64 0]) ∧ Below w.heap.size w w')) :
    Calls Tryz.prog 22 #[.slice (some ⟨b, o, none⟩) n c] w fun e w' => ∃ ρ nb mb q, e = .returned (.tuple #[.pointer (some ⟨q, 0, none⟩), .int .i64 0, .int .i64 0]) ∧ w.heap.size ≤ q ∧ (∀ b, (ρ b).isSome = true → w.heap.size ≤ b) ∧ Dom ρ nb mb (some (nb 1)) w' q (madeR L n) n ∧ Below w.heap.size w w' := by
  have hmk : ∀ w1 : World, (Instr.makeMap 111 none).run Tryz.prog w1 = .ok (.map (some w1.heap.size)) (w1.alloc (.map #[] 0)) := fun w1 => run_makeMap _ w1
  have HH := hide H
  have HL := hide hL
  clear H hL
  go_enter Tryz.func22, Tryz.ntmps22
  go_wp2_with (first | (go_at_call 42; refine (unhide HC).mono ?_; rintro e w1 ⟨rfl, hb1⟩))
  generalize hw0 : World.alloc (World.alloc (World.alloc w1 _) _) _ = w0
  have hs1 := hb1.size
  have hbA : Below w1.heap.size w1 (w1.alloc (.map #[] 0)) := (Below.refl _ _).alloc (Nat.le_refl _) _
  have hb01 : Below w1.heap.size w1 w0 := by rw [← hw0]; exact (hbA.alloc (by simp) _).alloc (by simp; omega) _
  have sz0 : w0.heap.size = w1.heap.size + 3 := by rw [← hw0]; simp
  have HI0 : Hid (NewInv L w w1.heap.size (w1.heap.size + 1) (w1.heap.size + 1 + 1) 0 w0) := by
    obtain ⟨hmap, hdoc, habv⟩ := alloc3 w1 (.map #[] 0) (.cells #[.pointer none, .map (some w1.heap.size), .int .i64 0] 114) (.cells #[.pointer none, .pointer none, .pointer none, .pointer none, .pointer none, .pointer none, .pointer none, .pointer none, .pointer none, .pointer none, .pointer none, .pointer none] 115)
    rw [hw0] at hmap hdoc habv
    refine hide ⟨fun b => if b = w1.heap.size + 1 then some (0, 0) else if b = w1.heap.size then some (0, 1) else none, fun _ => 0, ⟨hdoc, by simp, by simp, ?_, fun n hn => by simp [madeR] at hn, fun b hb => ?_, by simp [madeR]⟩, fun b hb => ?_, by simp; omega, by omega, fun e he => ?_, fun e => frozen_of_blk habv e, by omega, hb1.trans (hb01.mono hs1)⟩
    · have hm := MapAt.made w1
      have e1 : (w1.alloc (.map #[] 0)).heap[w1.heap.size]? = some (.map #[] 0) := heap_alloc_new w1 _
      have := hm.heap (w' := w0) (hmap.trans e1.symm)
      have e2 : blkOf (fun _ => 0) (madeR L 0) = fun _ => none := by funext i; rfl
      rw [e2]
      exact this
    · try simp only [] at hb
      split at hb
      · omega
      · split at hb
        · omega
        · simp at hb
    · try simp only [] at hb
      split at hb
      · omega
      · split at hb
        · omega
        · simp at hb
    · refine (cell_of_blk habv e (.pointer none) ?_).trans rfl
      have : e = 0 ∨ e = 1 ∨ e = 2 ∨ e = 3 ∨ e = 4 ∨ e = 5 ∨ e = 6 ∨ e = 7 ∨ e = 8 ∨ e = 9 ∨ e = 10 ∨ e = 11 := by omega
      rcases this with rfl | rfl | rfl | rfl | rfl | rfl | rfl | rfl | rfl | rfl | rfl | rfl <;> rfl
  have HB0 := hide (hb1.trans (hb01.mono hs1))
  generalize w1.heap.size = MB at *
  clear hw0 hb01 hbA hb1 hs1 sz0
  go_loopw [10, 11, 26] (fun _ _ i wr => ∃ k : Nat, k ≤ n ∧ i = .int .i64 k ∧ Hid (NewInv L w MB (MB + 1) (MB + 1 + 1) k wr)) (fun _ _ i _ => n - (intOf i).toNat)
  case atStart => exact ⟨0, Nat.zero_le _, rfl, HI0⟩
  case round =>
    obtain ⟨k, hk, rfl, hinv⟩ := hrel
    by_cases hlt : k < n
    · obtain ⟨ρ, nb, hD, hρ, hρA, hAlt, hcell, hfrz, hAB, hb⟩ := hinv.out
      have A := HH.out.node k hlt
      have hbl := HH.out.lt
      have f0 := (hb.cell (p := ⟨b, o + k * 5, none⟩) hbl).trans A.c0
      have f1 := (hb.cell (p := ⟨b, o + k * 5 + 1, none⟩) hbl).trans A.c1
      have f2 := (hb.cell (p := ⟨b, o + k * 5 + 2, none⟩) hbl).trans A.c2
      have f3 := (hb.cell (p := ⟨b, o + k * 5 + 3, none⟩) hbl).trans A.c3
      have f4 := (hb.cell (p := ⟨b, o + k * 5 + 4, none⟩) hbl).trans A.c4
      have hsw := hb.size
      obtain ⟨e, he, he12⟩ : ∃ e : Nat, (L k).d = (e : Int) ∧ e < 12 := by
        by_cases h0 : k = 0
        · subst h0; exact ⟨0, HL.out.zero, by decide⟩
        · have := HL.out.deep k hlt (by omega)
          exact ⟨(L k).d.toNat, by omega, by omega⟩
      have hbox : ρ wr.heap.size = none := by
        cases hx : ρ wr.heap.size with
        | none => rfl
        | some y => have := hD.low wr.heap.size (by rw [hx]; rfl); omega
      have HAdd : Hid (∀ w2, Below wr.heap.size wr w2 → wr.heap.size < w2.heap.size → Calls Tryz.prog 43 #[.pointer (some ⟨MB + 1, 0, none⟩), .agg #[.int .i64 e, .string (L k).t, .int .i64 (L k).k, .slice (L k).ao (L k).an (L k).ac, .string (L k).x]] w2 fun r w3 => ∃ nb' : Int → Nat, r = .returned (.pointer (some ⟨nb' ((k : Int) + 1), 0, none⟩)) ∧ w3.cell? ⟨wr.heap.size, 0, none⟩ = w2.cell? ⟨wr.heap.size, 0, none⟩ ∧ w2.heap.size ≤ w3.heap.size ∧ (∃ u, w3.cell? ⟨MB + 1 + 1, e, none⟩ = some u) ∧ w3.frozen? ⟨MB + 1 + 1, e, none⟩ = false ∧ (∃ u, w3.cell? ⟨MB + 1, 0, none⟩ = some u) ∧ w3.frozen? ⟨MB + 1, 0, none⟩ = false ∧ (∀ e1, e = e1 + 1 → k ≠ 0 → w3.cell? ⟨MB + 1 + 1, e1, none⟩ = some (.pointer (some ⟨nb' (parentOf L k k + 1), 0, none⟩))) ∧ Hid (NewMid L w MB (MB + 1) (MB + 1 + 1) k nb' { rnOf L k with par := 0 } (w3.setCell ⟨MB + 1 + 1, e, none⟩ (.pointer (some ⟨nb' ((k : Int) + 1), 0, none⟩))))) := hide fun w2 hb2 hs2 => by
        have hat : AttrsAt w2 (L k).ao (L k).an (nmOf (atsOf (L k))) (vlOf (atsOf (L k))) := fun j hj => by
          obtain ⟨g, o', e1, e2, e3, e4, e5, e6⟩ := ((A.ok.at'.below hb).below hb2) j hj
          exact ⟨g, o', e1, e2, by rw [nmOf_atsOf hj]; exact e3, by rw [vlOf_atsOf hj]; exact e4, by rw [nmOf_atsOf hj]; exact e5, by rw [vlOf_atsOf hj]; exact e6⟩
        refine (add_any ρ nb MB _ w2 (MB + 1) (madeR L k) k (hD.below hb2) e (L k).k (L k).t (L k).x (L k).ao (L k).an (L k).ac (atsOf (L k)) (atsOf_length _).symm (HL.out.an k hlt) (HL.out.rise k hlt) hat (by omega) (by omega) (madeR_ids L k) (madeR_top L k) (by rw [madeR_length]; omega) (HL.out.tag k hlt) (HL.out.text k hlt) (HL.out.att k hlt)).mono ?_
        rintro r w3 ⟨nb', ρ', rfl, hnb, hge, hw, hd⟩
        have hA3 : w3.heap[MB + 1 + 1]? = wr.heap[MB + 1 + 1]? := (hw.1.block _ (by omega) (by rw [hρA]; simp)).trans (hb2.block _ hAlt)
        refine ⟨nb', rfl, World.cell?_of_block (hw.1.block wr.heap.size hs2 (by rw [hbox]; simp)), hw.1.size, ⟨_, (World.cell?_of_block hA3).trans (hcell e he12)⟩, (frozen_heap hA3 e).trans (hfrz e), ⟨_, cell_of_blk hd.blk 0 _ rfl⟩, frozen_of_blk hd.blk 0, fun e1 he1 hk0 => ?_, hide (NewMid.of hd hρ hρA hAlt hcell hfrz hAB hb hb2 hw hnb he he12)⟩
        have hp := HL.out.par k hlt (by omega)
        have hpl := (parentOf_lt L k k).2
        rw [World.cell?_of_block hA3, hcell e1 (by omega)]
        have hee : (e1 : Int) = (L k).d - 1 := by rw [he]; omega
        rw [hee, abv_par hp, hnb _ (by omega)]
      have HPar : Hid (k ≠ 0 → 0 ≤ parentOf L k k) := hide fun h0 => HL.out.par k hlt (by omega)
      have HZero : Hid (k ≠ 0 → 1 ≤ e) := hide fun h0 => by have := HL.out.deep k hlt (by omega); omega
      have HZ0 : Hid (k = 0 → e = 0) := hide fun h0 => by subst h0; have := HL.out.zero; omega
      rw [he] at f0
      clear hD hcell hfrz A hinv hbox
      by_cases h0 : k = 0
      · have he0 := HZ0.out h0
        subst he0
        subst h0
        simp only [Nat.zero_mul, Nat.add_zero] at f0 f1 f2 f3 f4
        go_wp2_with (first | (go_at_call 43; refine (unhide HAdd _ ((Below.refl _ _).alloc (Nat.le_refl _) _) (by simp)).mono ?_; rintro r w3 ⟨nb', rfl, hbox, hs3, ⟨u, hu⟩, hfz, ⟨u', hu'⟩, hfq, hpp, hmid⟩; simp [go_sem] at hbox; clear HAdd hpp))
        exact ⟨⟨1, by omega, rfl, hide (new_root (by omega) (unhide hmid))⟩, by simp [intOf]; omega⟩
      · obtain ⟨e1, rfl⟩ : ∃ e1, e = e1 + 1 := ⟨e - 1, by have := HZero.out h0; omega⟩
        go_wp2_with (first | (go_at_call 43; refine (unhide HAdd _ ((Below.refl _ _).alloc (Nat.le_refl _) _) (by simp)).mono ?_; rintro r w3 ⟨nb', rfl, hbox, hs3, ⟨u, hu⟩, hfz, ⟨u', hu'⟩, hfq, hpp, hmid⟩; have hpp := hpp e1 rfl h0; simp [go_sem] at hbox; have HT := hide (new_take h0 (unhide HPar h0) (unhide hmid)); clear HAdd) | (go_at_call 44; refine (unhide HT).mono ?_; rintro r w5 ⟨rfl, hi5⟩))
        exact ⟨⟨k + 1, by omega, by go_num, hide hi5⟩, by simp [intOf]; omega⟩
    · have hkn : k = n := by omega
      subst hkn
      obtain ⟨ρ, nb, hD, hρ, _, _, _, _, hAB, hb⟩ := hinv.out
      rw [if_neg (by omega)] at hD
      have HF : Hid (∃ ρ nb mb q, Ending.returned (.tuple #[.pointer (some ⟨MB + 1, 0, none⟩), .int .i64 0, .int .i64 0]) = .returned (.tuple #[.pointer (some ⟨q, 0, none⟩), .int .i64 0, .int .i64 0]) ∧ w.heap.size ≤ q ∧ (∀ b, (ρ b).isSome = true → w.heap.size ≤ b) ∧ Dom ρ nb mb (some (nb 1)) wr q (madeR L k) k ∧ Below w.heap.size w wr) := hide ⟨ρ, nb, MB, MB + 1, rfl, hρ _ (by rw [hD.role]; rfl), hρ, hD, hb⟩
      clear hD hρ hAB hb hinv
      go_wp2_with fail
      refine bodyPost_ret (results_tmp3 rfl _ _ _) rfl ?_
      exact HF.out
end Go.Proofs.YtobgcaemnpkbmaaGreat
namespace Go.Proofs.YtobgcaemnpkbmaaGreat
open Go.RowKit
theorem wrap_tree (db q : Nat) (w : World) (Q : Value → World → Prop) (c0 : w.cell? ⟨db, 0, none⟩ = some (.pointer (some ⟨q, 0, none⟩))) (HC : Hid (Calls Tryz.prog 46 #[.pointer (some ⟨q, 0, none⟩)] w fun e w' => ∃ v, e = .returned v ∧ Q v w')) :
    Calls Tryz.prog 25 #[.pointer (some ⟨db, 0, none⟩)] w fun e w' => ∃ v, e = .returned v ∧ Q v w' := by
  go_enter Tryz.func25, Tryz.ntmps25
  go_wp2_with (first | (go_at_call 46; refine (unhide HC).mono ?_; rintro e w2 ⟨v, rfl, h2⟩))
  go_ret
  exact ⟨v, rfl, h2⟩
theorem wrap_ids (db q : Nat) (w : World) (Q : Value → World → Prop) (c0 : w.cell? ⟨db, 0, none⟩ = some (.pointer (some ⟨q, 0, none⟩))) (HC : Hid (Calls Tryz.prog 51 #[.pointer (some ⟨q, 0, none⟩)] w fun e w' => ∃ v, e = .returned v ∧ Q v w')) :
    Calls Tryz.prog 29 #[.pointer (some ⟨db, 0, none⟩)] w fun e w' => ∃ v, e = .returned v ∧ Q v w' := by
  go_enter Tryz.func29, Tryz.ntmps29
  go_wp2_with (first | (go_at_call 51; refine (unhide HC).mono ?_; rintro e w2 ⟨v, rfl, h2⟩))
  go_ret
  exact ⟨v, rfl, h2⟩
theorem wrap_loose (db q : Nat) (w : World) (Q : Value → World → Prop) (c0 : w.cell? ⟨db, 0, none⟩ = some (.pointer (some ⟨q, 0, none⟩))) (HC : Hid (Calls Tryz.prog 52 #[.pointer (some ⟨q, 0, none⟩)] w fun e w' => ∃ v, e = .returned v ∧ Q v w')) :
    Calls Tryz.prog 32 #[.pointer (some ⟨db, 0, none⟩)] w fun e w' => ∃ v, e = .returned v ∧ Q v w' := by
  go_enter Tryz.func32, Tryz.ntmps32
  go_wp2_with (first | (go_at_call 52; refine (unhide HC).mono ?_; rintro e w2 ⟨v, rfl, h2⟩))
  go_ret
  exact ⟨v, rfl, h2⟩
theorem wrap_apply (db q : Nat) (w : World) (ao : Option Addr) (n c : Nat) (Q : Int → Int → World → Prop) (c0 : w.cell? ⟨db, 0, none⟩ = some (.pointer (some ⟨q, 0, none⟩))) (HC : Hid (Calls Tryz.prog 53 #[.pointer (some ⟨q, 0, none⟩), .slice ao n c] w fun e w' => ∃ x y, e = .returned (.tuple #[.int .i64 x, .int .i64 y]) ∧ Q x y w')) :
    Calls Tryz.prog 34 #[.pointer (some ⟨db, 0, none⟩), .slice ao n c] w fun e w' => ∃ x y, e = .returned (.tuple #[.int .i64 x, .int .i64 y]) ∧ Q x y w' := by
  go_enter Tryz.func34, Tryz.ntmps34
  go_wp2_with (first | (go_at_call 53; refine (unhide HC).mono ?_; rintro e w2 ⟨x, y, rfl, h2⟩))
  refine bodyPost_ret (results_tmp2 rfl _ _ _) rfl ?_
  exact ⟨x, y, rfl, h2⟩
theorem pnew_bad (ao : Option Addr) (n c : Nat) (w : World) (no at' : Int) (hno : (no != 0) = true) (HC : Hid (Calls Tryz.prog 42 #[.slice ao n c] w fun e w' => e = .returned (.tuple #[.int .i64 no, .int .i64 at']) ∧ Below w.heap.size w w')) :
    Calls Tryz.prog 22 #[.slice ao n c] w fun e w' => e = .returned (.tuple #[.pointer none, .int .i64 no, .int .i64 at']) ∧ Below w.heap.size w w' := by
  go_enter Tryz.func22, Tryz.ntmps22
  go_wp2_with (first | (go_at_call 42; refine (unhide HC).mono ?_; rintro e w1 ⟨rfl, hb1⟩))
  refine bodyPost_ret (results_tmp3 rfl _ _ _) rfl ?_
  exact ⟨rfl, hb1⟩
theorem wrap_bad (ao : Option Addr) (n c : Nat) (w : World) (no at' : Int) (hno : (no != 0) = true) (HC : Hid (Calls Tryz.prog 22 #[.slice ao n c] w fun e w' => e = .returned (.tuple #[.pointer none, .int .i64 no, .int .i64 at']) ∧ Below w.heap.size w w')) :
    Calls Tryz.prog 10 #[.slice ao n c] w fun e w' => e = .returned (.tuple #[.pointer none, .int .i64 no, .int .i64 at']) ∧ Below w.heap.size w w' := by
  go_enter Tryz.func10, Tryz.ntmps10
  go_wp2_with (first | (go_at_call 22; refine (unhide HC).mono ?_; rintro e w1 ⟨rfl, hb1⟩))
  refine bodyPost_ret (results_tmp3 rfl _ _ _) rfl ?_
  exact ⟨rfl, hb1⟩
theorem wrap_new (ao : Option Addr) (n c : Nat) (w : World) (Q : Nat → World → Prop) (HC : Hid (Calls Tryz.prog 22 #[.slice ao n c] w fun e w' => ∃ q, e = .returned (.tuple #[.pointer (some ⟨q, 0, none⟩), .int .i64 0, .int .i64 0]) ∧ Q q w')) :
    Calls Tryz.prog 10 #[.slice ao n c] w fun e w' => ∃ q w1, Q q w1 ∧ w' = w1.alloc (.cells #[.pointer (some ⟨q, 0, none⟩)] 84) ∧ e = .returned (.tuple #[.pointer (some ⟨w1.heap.size, 0, none⟩), .int .i64 0, .int .i64 0]) := by
  go_enter Tryz.func10, Tryz.ntmps10
  go_wp2_with (first | (go_at_call 22; refine (unhide HC).mono ?_; rintro e w1 ⟨q, rfl, hb1⟩))
  refine bodyPost_ret (results_tmp3 rfl _ _ _) rfl ?_
  exact ⟨q, w1, hb1, rfl, rfl⟩
end Go.Proofs.YtobgcaemnpkbmaaGreat
namespace Go.Proofs.YtobgcaemnpkbmaaGreat
open Go.RowKit
theorem may_node {L : Nat → Nod} {i : Nat} (h : mayB L i = true) : elB (L i) = true ∨ txB (L i) = true := by
  unfold mayB at h
  by_cases h0 : i = 0
  · subst h0
    rw [if_pos rfl] at h
    simp only [Bool.and_eq_true] at h
    exact .inl h.2
  · rw [if_neg h0] at h
    simp only [Bool.and_eq_true, Bool.or_eq_true] at h
    exact h.1.2
theorem may_deep {L : Nat → Nod} {i : Nat} (h0 : 0 < i) (h : mayB L i = true) : 1 ≤ (L i).d ∧ (L i).d ≤ 11 ∧ (L i).d ≤ (L (i - 1)).d + 1 := by
  unfold mayB at h
  rw [if_neg (by omega)] at h
  simp [depthB] at h
  omega
theorem el_attr {m : Nod} (h : elB m = true ∨ txB m = true) : m.an ≤ 5 ∧ ∀ j, j < m.an → attrB m.nm m.vl j = true ∧ elB m = true := by
  rcases h with h | h
  · have h' := h
    unfold elB attrsB at h'
    simp only [Bool.and_eq_true, decide_eq_true_eq, List.all_eq_true, List.mem_range] at h'
    exact ⟨h'.2.1, fun j hj => ⟨h'.2.2 j hj, h⟩⟩
  · unfold txB at h
    simp only [Bool.and_eq_true, decide_eq_true_eq] at h
    have h0 : m.an = 0 := h.1.2
    exact ⟨by omega, fun j hj => by omega⟩
theorem att_name {nm vl : Nat → ByteArray} {j : Nat} (h : attrB nm vl j = true) : nameB (nm j) = true ∧ textB (vl j) = true ∧ (0 < j → lessB (nm (j - 1)) (nm j) = true) := by
  unfold attrB at h
  simp only [Bool.and_eq_true, Bool.or_eq_true, decide_eq_true_eq] at h
  exact ⟨h.1.1, h.1.2, fun h0 => h.2.resolve_left (by omega)⟩
theorem ats_rise {m : Nod} (h : elB m = true ∨ txB m = true) : Rises (atsOf m) := by
  obtain ⟨_, ha⟩ := el_attr h
  have hlt : ∀ j, j < m.an → ∀ i, i < j → lessB (m.nm i) (m.nm j) = true := by
    intro j
    induction j with
    | zero => intro _ i hi; omega
    | succ j ih =>
      intro hj i hi
      have h1 := (att_name (ha (j + 1) hj).1).2.2 (by omega)
      rw [Nat.add_sub_cancel] at h1
      by_cases e : i = j
      · subst e; exact h1
      · exact less_trans _ _ _ (ih (by omega) i (by omega)) h1
  unfold Rises atsOf
  rw [List.pairwise_map]
  refine List.Pairwise.imp_of_mem (fun {x y} hx hy hxy => ?_) (List.pairwise_lt_range (n := m.an))
  exact hlt y (List.mem_range.1 hy) x hxy
theorem ats_mem {m : Nod} {x : ByteArray × ByteArray} (h : x ∈ atsOf m) : ∃ j, j < m.an ∧ x = (m.nm j, m.vl j) := by
  unfold atsOf at h
  obtain ⟨j, hj, rfl⟩ := List.mem_map.1 h
  exact ⟨j, List.mem_range.1 hj, rfl⟩
theorem text_size {s : ByteArray} (h : textB s = true) : s.size ≤ 20 := by unfold textB at h; simpa using h
theorem empty_size {s : ByteArray} (h : s.toList.isEmpty = true) : s.size = 0 := by
  have h2 : s.toList = [] := List.isEmpty_iff.1 h
  have h3 : s.toList.length = s.size := by rw [ByteArray.toList_eq, Array.length_toList]; rfl
  rw [h2] at h3
  exact h3.symm
theorem el_size {m : Nod} (h : elB m = true ∨ txB m = true) : m.t.size ≤ 8 ∧ m.x.size ≤ 20 := by
  rcases h with h | h
  · unfold elB at h
    simp only [Bool.and_eq_true] at h
    exact ⟨name_size h.1.1.1, by have := empty_size h.1.1.2; omega⟩
  · unfold txB at h
    simp only [Bool.and_eq_true] at h
    exact ⟨by have := empty_size h.1.1.1; omega, text_size h.2⟩
theorem NewOk.of {L : Nat → Nod} {n : Nat} (hn : 0 < n) (h : ∀ i, i < n → mayB L i = true) : NewOk L n where
  zero := mayB_zero (h 0 hn)
  deep := fun i hi h0 => ⟨(may_deep h0 (h i hi)).1, (may_deep h0 (h i hi)).2.1⟩
  par := fun i hi h0 => by
    obtain ⟨p, hp⟩ := par_of h0 (fun j hj => h j (by omega)) (may_deep h0 (h i hi)).1 (may_deep h0 (h i hi)).2.2
    rw [hp.parent]
    omega
  an := fun i hi => (el_attr (may_node (h i hi))).1
  rise := fun i hi => ats_rise (may_node (h i hi))
  tag := fun i hi => by have := (el_size (may_node (h i hi))).1; omega
  text := fun i hi => by have := (el_size (may_node (h i hi))).2; omega
  att := fun i hi x hx => by
    obtain ⟨j, hj, rfl⟩ := ats_mem hx
    have := att_name ((el_attr (may_node (h i hi))).2 j hj).1
    exact ⟨Nat.le_trans (name_size this.1) (by decide), Nat.le_trans (text_size this.2.1) (by decide)⟩
theorem made_fine {L : Nat → Nod} {n : Nat} (h : ∀ i, i < n → mayB L i = true) : Fine (madeR L n) := fun m hm a ha => by
  obtain ⟨i, hi, rfl⟩ := List.getElem_of_mem hm
  rw [madeR_get] at ha ⊢
  rw [madeR_length] at hi
  obtain ⟨j, hj, rfl⟩ := ats_mem (show a ∈ atsOf (L i) from ha)
  obtain ⟨h1, h2⟩ := (el_attr (may_node (h i hi))).2 j hj
  refine ⟨(att_name h1).1, ?_⟩
  unfold elB at h2
  simp only [Bool.and_eq_true] at h2
  show (L i).t.toList.isEmpty = false
  cases hx : (L i).t.toList.isEmpty with
  | false => rfl
  | true => rw [name_nonempty hx] at h2; cases h2.1.1.1
theorem made_ok {L : Nat → Nod} {n : Nat} (hn : 0 < n) (h : ∀ i, i < n → mayB L i = true) : DocOk (madeR L n) n where
  ids := madeR_ids L n
  up := by
    refine ⟨fun x => ((L (x - 1).toNat).d).toNat, fun m hm => ?_, fun m hm hp => ?_⟩
    · obtain ⟨i, hi, rfl⟩ := List.getElem_of_mem hm
      rw [madeR_get]
      rw [madeR_length] at hi
      by_cases h0 : i = 0
      · subst h0; exact .inl rfl
      · right
        have hp := (NewOk.of hn h).par i hi (by omega)
        have hl := (parentOf_lt L i i).2
        have hlt : (parentOf L i i).toNat < (madeR L n).length := by rw [madeR_length]; omega
        refine ⟨(madeR L n)[(parentOf L i i).toNat], List.getElem_mem hlt, ?_⟩
        rw [madeR_get]
        show (((parentOf L i i).toNat : Nat) : Int) + 1 = parP L i
        unfold parP
        rw [if_neg h0]
        omega
    · obtain ⟨i, hi, rfl⟩ := List.getElem_of_mem hm
      rw [madeR_get] at hp ⊢
      rw [madeR_length] at hi
      have hpp : (rnOf L i).par = parP L i := rfl
      have hid : (rnOf L i).id = (i : Int) + 1 := rfl
      by_cases h0 : i = 0
      · subst h0; exact absurd rfl hp
      · obtain ⟨p, hpar⟩ := par_of (by omega) (fun j hj => h j (by omega)) (may_deep (by omega) (h i hi)).1 (may_deep (by omega) (h i hi)).2.2
        have e1 : parP L i = (p : Int) + 1 := by unfold parP; rw [if_neg h0, hpar.parent]
        rw [hpp, hid, e1]
        have e2 : ((p : Int) + 1 - 1).toNat = p := by omega
        have e3 : ((i : Int) + 1 - 1).toNat = i := by omega
        have hd := (may_deep (by omega) (h i hi)).1
        have hu := hpar.up
        simp only [e2, e3]
        omega
  top := fun m hm => (madeR_top L n m hm).1
  root := by
    have h0 : 0 < (madeR L n).length := by rw [madeR_length]; exact hn
    refine ⟨(madeR L n)[0], List.getElem_mem h0, ?_, ?_⟩
    · rw [madeR_get]; rfl
    · rw [madeR_get]; rfl
end Go.Proofs.YtobgcaemnpkbmaaGreat
namespace Go.Proofs.YtobgcaemnpkbmaaGreat
open Go.RowKit
theorem kidIds_bare (R : List RN) (q : Int) : kidIds (bareL R) q = kidIds R q := by
  unfold kidIds bareL
  rw [List.filter_map, List.map_map]
  rfl
theorem blkOf_bare (nb : Int → Nat) (R : List RN) (i : Int) : blkOf nb (bareL R) i = blkOf nb R i := by
  unfold blkOf bareL
  rw [List.any_map]
  rfl
theorem PNode.bare {ρ : Roles} {nb : Int → Nat} {w : World} {R : List RN} {n : RN} {av kv : Value} : PNode ρ nb w (bareL R) n.bare av kv ↔ PNode ρ nb w R n av kv := by
  constructor
  · rintro ⟨h1, h2, h3, h4, h5, h6, h7, h8, h9, h10, h11⟩
    exact ⟨h1, h2, h3, h4, by have h5 := h5; rw [kidIds_bare] at h5; exact h5, h6, h7, h8, h9, h10, h11⟩
  · rintro ⟨h1, h2, h3, h4, h5, h6, h7, h8, h9, h10, h11⟩
    exact ⟨h1, h2, h3, h4, by rw [kidIds_bare]; exact h5, h6, h7, h8, h9, h10, h11⟩
theorem Dom.bare {ρ : Roles} {nb : Int → Nat} {mb : Nat} {rt : Option Nat} {w : World} {q : Nat} {R : List RN} {last : Int} : Dom ρ nb mb rt w q (bareL R) last ↔ Dom ρ nb mb rt w q R last := by
  have hb : blkOf nb (bareL R) = blkOf nb R := funext (blkOf_bare nb R)
  constructor
  · rintro ⟨h1, h2, h3, h4, h5, h6, h7⟩
    rw [hb, bareL_length] at h4
    rw [bareL_length] at h7
    refine ⟨h1, h2, h3, h4, fun n hn => ?_, h6, h7⟩
    obtain ⟨av, kv, hp⟩ := h5 n.bare (bare_mem.2 ⟨n, hn, rfl⟩)
    exact ⟨av, kv, PNode.bare.1 hp⟩
  · rintro ⟨h1, h2, h3, h4, h5, h6, h7⟩
    refine ⟨h1, h2, h3, by rw [hb, bareL_length]; exact h4, fun n hn => ?_, h6, by rw [bareL_length]; exact h7⟩
    obtain ⟨m, hm, rfl⟩ := bare_mem.1 hn
    obtain ⟨av, kv, hp⟩ := h5 m hm
    exact ⟨av, kv, PNode.bare.2 hp⟩
theorem Fine.bare {R : List RN} : Fine (bareL R) ↔ Fine R := by
  constructor
  · intro h n hn
    exact h n.bare (bare_mem.2 ⟨n, hn, rfl⟩)
  · intro h n hn
    obtain ⟨m, hm, rfl⟩ := bare_mem.1 hn
    exact h m hm
end Go.Proofs.YtobgcaemnpkbmaaGreat
