/- Srt2 Lda Refb Un -/
import Derived.Test.YtobgcaemnpkbmaaGreatD09
import Derived.Test.YtobgcaemnpkbmaaGreatD06
import Derived.Lib.SlicesDelete
import Derived.Test.YtobgcaemnpkbmaaGreatD07
import Derived.Test.YtobgcaemnpkbmaaGreatD11
namespace Go.Proofs.YtobgcaemnpkbmaaGreat
open Go.RowKit
theorem bytes_ext {a b : ByteArray} (h : a.toList = b.toList) : a = b := by
  rw [ByteArray.toList_eq, ByteArray.toList_eq] at h
  apply ByteArray.ext
  exact Array.ext' h
theorem sameB_eq {a b : ByteArray} (h : sameB a b = true) : a = b := bytes_ext (sameB_iff.1 h)
theorem take_att {l : List (ByteArray × ByteArray)} {k : Nat} (h : k < l.length) : l.take (k + 1) = l.take k ++ [l[k]] := by rw [List.take_succ_eq_append_getElem h]
theorem setTo_before {l : List (ByteArray × ByteArray)} {nm vl : ByteArray} (hs : Rises l) : ∀ k, k ≤ posP l nm → setTo l nm vl k = (l.take k, false) := by
  intro k
  induction k with
  | zero => intro _; rfl
  | succ k ih =>
    intro hk
    have hkl : k < l.length := by have := posP_le l nm; omega
    have hl := (posP_iff (nm := nm) hs k hkl).2 (by omega)
    have hne : sameB l[k].1 nm = false := by
      cases he : sameB l[k].1 nm with
      | false => rfl
      | true => rw [same_not_less he] at hl; cases hl
    have hl' : Op.bytesLess l[k].1.toList nm.toList = true := hl
    unfold setTo
    simp only [ih (by omega), attAt_lt hkl, hl', hne, take_att hkl]
    simp
def hitN (l : List (ByteArray × ByteArray)) (nm : ByteArray) : Nat := if hitP l nm then 1 else 0
theorem setTo_after {l : List (ByteArray × ByteArray)} {nm vl : ByteArray} (hs : Rises l) : ∀ k, k ≤ l.length → posP l nm < k → setTo l nm vl k = (l.take (posP l nm) ++ [(nm, vl)] ++ (l.take k).drop (posP l nm + hitN l nm), true) := by
  intro k
  induction k with
  | zero => intro _ h; exact absurd h (Nat.not_lt_zero _)
  | succ k ih =>
    intro hk hp
    have hkl : k < l.length := by omega
    have hnl : Op.bytesLess l[k].1.toList nm.toList = false := by
      cases hx : Op.bytesLess l[k].1.toList nm.toList with
      | false => rfl
      | true => have := (posP_iff (nm := nm) hs k hkl).1 hx; omega
    by_cases e : k = posP l nm
    · have hh : hitP l nm = sameB l[k].1 nm := by
        unfold hitP
        rw [← e, decide_eq_true hkl, Bool.true_and, attAt_lt hkl]
      unfold setTo
      simp only [setTo_before (nm := nm) (vl := vl) hs k (by omega), attAt_lt hkl, hnl]
      unfold hitN
      rw [hh, ← e]
      cases hsm : sameB l[k].1 nm with
      | true =>
        simp
      | false =>
        simp
        rw [take_att hkl, List.drop_append, List.drop_of_length_le (by rw [List.length_take]; omega), List.length_take, Nat.min_eq_left (by omega), Nat.sub_self]
        rfl
    · have hne : sameB l[k].1 nm = false := by
        cases he : sameB l[k].1 nm with
        | false => rfl
        | true =>
          have hp' : posP l nm < l.length := by omega
          have h1 : lessB l[posP l nm].1 l[k].1 = true := List.pairwise_iff_getElem.1 hs _ _ hp' hkl (by omega)
          rw [less_same he] at h1
          have := (posP_iff (nm := nm) hs _ hp').1 h1
          omega
      unfold setTo
      simp only [ih (by omega) (by omega), attAt_lt hkl, hnl, hne]
      simp
      have hhN : hitN l nm ≤ 1 := by unfold hitN; split <;> omega
      rw [take_att hkl, List.drop_append_of_le_length (by rw [List.length_take]; omega)]
theorem setP_pos {l : List (ByteArray × ByteArray)} {nm vl : ByteArray} (hs : Rises l) : setP l nm vl = l.take (posP l nm) ++ [(nm, vl)] ++ l.drop (posP l nm + hitN l nm) := by
  have hp := posP_le l nm
  unfold setP
  by_cases e : posP l nm < l.length
  · rw [setTo_after hs _ (Nat.le_refl _) e]
    simp
  · have e : posP l nm = l.length := by omega
    rw [setTo_before (nm := nm) (vl := vl) hs _ (by omega)]
    have hh : hitN l nm = 0 := by
      unfold hitN hitP
      rw [decide_eq_false (by omega)]
      rfl
    rw [hh, e]
    simp
theorem rises_set {l : List (ByteArray × ByteArray)} {nm vl : ByteArray} (hs : Rises l) : Rises (setP l nm vl) := by
  rw [setP_pos hs]
  have hp := posP_le l nm
  have h1 : ∀ x, x ∈ l.take (posP l nm) → lessB x.1 nm = true := fun x hx => by
    obtain ⟨i, hi, rfl⟩ := List.getElem_of_mem hx
    rw [List.length_take] at hi
    rw [List.getElem_take]
    exact (posP_iff hs i (by omega)).2 (by omega)
  have h2 : ∀ x, x ∈ l.drop (posP l nm + hitN l nm) → lessB nm x.1 = true := fun x hx => by
    obtain ⟨i, hi, rfl⟩ := List.getElem_of_mem hx
    rw [List.length_drop] at hi
    rw [List.getElem_drop]
    cases hh : hitP l nm with
    | true =>
      have hN : hitN l nm = 1 := by unfold hitN; rw [hh]; rfl
      have hpl : posP l nm < l.length := by omega
      have hsm : sameB l[posP l nm].1 nm = true := by
        unfold hitP at hh
        rw [decide_eq_true hpl, Bool.true_and, attAt_lt hpl] at hh
        exact hh
      have := List.pairwise_iff_getElem.1 hs _ (posP l nm + hitN l nm + i) hpl (by omega) (by omega)
      rw [same_less hsm] at this
      exact this
    | false =>
      have hN : hitN l nm = 0 := by unfold hitN; rw [hh]; rfl
      have hpl : posP l nm < l.length := by omega
      have hn1 : lessB l[posP l nm].1 nm = false := by
        cases hx : lessB l[posP l nm].1 nm with
        | false => rfl
        | true => have := (posP_iff hs _ hpl).1 hx; omega
      have hn2 : lessB nm l[posP l nm].1 = true := by
        cases hx : lessB nm l[posP l nm].1 with
        | true => rfl
        | false =>
          have := less_total _ _ hn1 hx
          unfold hitP at hh
          rw [decide_eq_true hpl, Bool.true_and, attAt_lt hpl] at hh
          rw [sameB_iff.2 this] at hh
          cases hh
      by_cases h0 : i = 0
      · subst h0
        have e : posP l nm + hitN l nm + 0 = posP l nm := by omega
        simp only [e]
        exact hn2
      · have := List.pairwise_iff_getElem.1 hs _ (posP l nm + hitN l nm + i) hpl (by omega) (by omega)
        exact less_trans _ _ _ hn2 this
  unfold Rises
  rw [List.append_assoc, List.pairwise_append]
  refine ⟨hs.sublist (List.take_sublist _ _), ?_, fun x hx y hy => ?_⟩
  · rw [List.singleton_append, List.pairwise_cons]
    exact ⟨fun y hy => h2 y hy, hs.sublist (List.drop_sublist _ _)⟩
  · rcases List.mem_append.1 hy with hy | hy
    · rw [List.mem_singleton.1 hy]; exact h1 x hx
    · exact less_trans _ _ _ (h1 x hx) (h2 y hy)
end Go.Proofs.YtobgcaemnpkbmaaGreat
namespace Go.Proofs.YtobgcaemnpkbmaaGreat
open Go.RowKit
set_option maxHeartbeats 4000000 in
set_option maxRecDepth 1000000 in
theorem delete_attr (g n c i j : Nat) (xs : List Value) (w : World) (hown : w.ownsRow 0 72 2 (.slice (some ⟨g, 0, none⟩) n c) n xs) (hi : i < n) (hij : j = i + 1) (h1 : ∀ x ∈ xs, x.oneCell' = true) :
    Calls Tryz.prog 108 #[.slice (some ⟨g, 0, none⟩) n c, .int .i64 i, .int .i64 j] w fun e w' => e = .returned (.slice (some ⟨g, 0, none⟩) (n - 1) c) ∧
      w'.ownsRow 0 72 2 (.slice (some ⟨g, 0, none⟩) (n - 1) c) (n - 1) (xs.take (i * 2) ++ xs.drop ((i + 1) * 2)) ∧ w.grownBy w' (some g) ∧ w'.heap.size = w.heap.size := by
  obtain ⟨cur, hcur, hcs, hnc, hcm⟩ := own_plain hown
  obtain ⟨i0, hi0, hz0, hz1, hz2⟩ := info_parts attrInfo'
  have hxl := hown.1
  have hm : c ≤ 9223372036854775807 := by unfold maxLen at hcm; omega
  obtain ⟨news, hnews⟩ : ∃ news, news = xs.drop (j * 2) := ⟨_, rfl⟩
  have hlen : news.length = (n - j) * 2 := by rw [hnews, List.length_drop, hxl]; omega
  have hcell : ∀ k, k < n * 2 → ∃ u, w.cell? ⟨g, k, none⟩ = some u := fun k hk => ⟨xs[k]'(by omega), by rw [hown.cellAt k (by omega), List.getElem?_eq_getElem (by omega)]⟩
  obtain ⟨A, hA, hsrc⟩ : ∃ A : Addr, (if c = j then some (⟨g, 0, none⟩ : Addr) else some ⟨g, j * 2, none⟩) = some A ∧ Hid (∀ t u, news[t]? = some u → w.drew.cell? (A.add t) = some u) := by
    by_cases h : c = j
    · refine ⟨⟨g, 0, none⟩, by simp [h], fun t u hu => ?_⟩
      have h0 : news.length = 0 := by omega
      rw [List.length_eq_zero_iff.1 h0] at hu
      simp at hu
    · refine ⟨⟨g, j * 2, none⟩, by simp [h], fun t u hu => ?_⟩
      have ht := (List.getElem?_eq_some_iff.1 hu).1
      rw [hnews, List.getElem?_drop] at hu
      rw [addr_add']
      show w.cell? _ = _
      have hlt := (List.getElem?_eq_some_iff.1 hu).1
      rw [hown.cellAt _ (by omega)]
      exact hu
  have s1 : Hid (news.length = (n - j) * 2) := hlen
  have s2 : Hid (∀ u ∈ news, u.oneCell' = true) := fun u hu => h1 u (by rw [hnews] at hu; exact List.mem_of_mem_drop hu)
  have s3 : Hid (∀ t, t < news.length → (w.drew.cell? ⟨g, 0 + i * 2 + t, none⟩).isSome = true ∧ w.drew.frozen? ⟨g, 0 + i * 2 + t, none⟩ = false) := by
    intro t ht
    rw [hlen] at ht
    obtain ⟨u, hu⟩ := hcell (0 + i * 2 + t) (by omega)
    exact ⟨by show (w.cell? _).isSome = true; rw [hu]; rfl, hown.frozenAt _⟩
  obtain ⟨W1, hW1⟩ : ∃ W1, W1 = w.drew.setCells g (0 + i * 2) news := ⟨_, rfl⟩
  have ho1 : W1.ownsRow 0 72 2 (.slice (some ⟨g, 0, none⟩) n c) n (layL xs (0 + i * 2) news) := by rw [hW1]; exact own_setCells news (0 + i * 2) hown.drew
  have hl1 : (layL xs (0 + i * 2) news).length = n * 2 := by rw [layL_length, hxl]
  have hlast : i + (n - j) = n - 1 := by omega
  have hcl : ∀ ty k, (Builtin.clear_ #[31] ty #[.slice (some ⟨g, (n - 1) * 2, none⟩) (n - (n - 1)) k]).run Tryz.prog W1 = .ok (.tuple #[]) (W1.setCells g ((n - 1) * 2) [.string ⟨#[]⟩, .string ⟨#[]⟩]) := fun ty k => by
    rw [show n - (n - 1) = 1 by omega]
    refine run_clear_one W1 31 72 ty (.agg #[.string ⟨#[]⟩, .string ⟨#[]⟩]) [.string ⟨#[]⟩, .string ⟨#[]⟩] Tryz.underlying31 (fun w => Tryz.zeroValue72 w) rfl (by simp) (by simp [Value.oneCell']) g ((n - 1) * 2) k (fun t ht => ?_) (fun t _ => ho1.frozenAt _)
    have ht : t < 2 := ht
    rw [ho1.cellAt _ (by omega), List.getElem?_eq_getElem (by omega)]; rfl
  have hgw := setCells_grown g news (0 + i * 2) w.drew
  rw [← hW1] at hgw
  have HO := hide ho1
  have hW : Hid (W1 = w.drew.setCells g (0 + i * 2) news) := hW1
  have HG := hide hgw
  have HN := hide hnews
  have HX := hide hxl
  have HL := hide hlen
  have HJ := hide hij
  have hic : i ≤ c := by omega
  have hjc : j ≤ c := by omega
  have hjn : j ≤ n := by omega
  have hne : ¬ ((i : Int) = (j : Int)) := by omega
  have hl3 : n - (i + (n - j)) = 1 := by omega
  have hij' : i ≤ j := by omega
  clear hW1 ho1 hgw hnews hxl hlen hcell hown h1 hcur hl1 hij
  go_enter Tryz.func108, Tryz.ntmps108
  go_wp2_with fail
  go_region_law (refine step_append_room rfl (.tmp 22) (.tmp 25) 31 rfl 72 i0 2 Tryz.underlying31 hi0 hz1 g 0 i c (by simp [Act.eval, Act.put]) A (n - j) (c - j) news (by simp [Act.eval, Act.put]) s1.out hsrc.out s2.out (by omega) s3.out ?_; rw [← hW.out])
  go_wp2_with fail
  go_ret
  have ho2 := own_cut (own_setCells [.string ⟨#[]⟩, .string ⟨#[]⟩] ((n - 1) * 2) HO.out) (m := n - 1) (by omega)
  have hg2 := setCells_grown g [.string ⟨#[]⟩, .string ⟨#[]⟩] ((n - 1) * 2) W1
  have hx := HX.out
  have hj := HJ.out
  refine ⟨rfl, ?_, ⟨hg2.1.os.trans HG.out.1.os, hg2.1.tape.trans (HG.out.1.tape.trans ?_), hg2.1.output.trans HG.out.1.output, ?_, fun b hb hn => (hg2.1.block b (by rw [HG.out.2]; exact hb) hn).trans (HG.out.1.block b hb hn)⟩, by rw [hg2.2, HG.out.2]; rfl⟩
  · have e : (layL (layL xs (0 + i * 2) news) ((n - 1) * 2) [.string ⟨#[]⟩, .string ⟨#[]⟩]).take ((n - 1) * 2) = xs.take (i * 2) ++ xs.drop ((i + 1) * 2) := by
      rw [layL_eq _ _ _ (by rw [layL_length]; simp; omega), layL_eq _ _ _ (by rw [HL.out]; omega), HN.out, hj]
      rw [List.append_assoc (List.take _ (_ ++ _)), List.take_append_of_le_length (by simp; omega), List.take_take, Nat.min_eq_left (by omega), List.take_append_of_le_length (by simp; omega), List.take_of_length_le (by simp; omega)]
      rw [Nat.zero_add]
    rw [e] at ho2
    exact ho2
  · rfl
  · rw [hg2.2, HG.out.2]; exact Nat.le_refl _
end Go.Proofs.YtobgcaemnpkbmaaGreat
namespace Go.Proofs.YtobgcaemnpkbmaaGreat
open Go.RowKit
theorem RN.Ok.moved {S S' : Nat → Prop} {w w' : World} {n : RN} (h : n.Ok S w) (hS : ∀ b, b < w.heap.size → S b → S' b) (hsz : w.heap.size ≤ w'.heap.size) (hb : ∀ ad, n.ao = some ad → w'.heap[ad.block]? = w.heap[ad.block]?) : n.Ok S' w' := by
  refine ⟨h.an, h.few, h.nil, h.tag, h.text, ?_, fun ad e => ⟨hS _ (h.own ad e).2 (h.own ad e).1, Nat.lt_of_lt_of_le (h.own ad e).2 hsz⟩⟩
  intro j hj
  obtain ⟨b, o, e, hbw, c0, c1, s0, s1⟩ := h.at' j hj
  have hx : w'.heap[b]? = w.heap[b]? := hb _ e
  exact ⟨b, o, e, Nat.lt_of_lt_of_le hbw hsz, (World.cell?_of_block (w := w) (a := ⟨b, o + j * 2, none⟩) hx).trans c0, (World.cell?_of_block (w := w) (a := ⟨b, o + j * 2 + 1, none⟩) hx).trans c1, s0, s1⟩
theorem RefAt.build {S S' : Nat → Prop} {w w' : World} {p : Nat} {R R' : List RN} {last last' : Int} {v v' : Value} (h : RefAt S w p R last v) (hS : ∀ b, b < w.heap.size → S b → S' b) (hsz : w.heap.size ≤ w'.heap.size)
    (c0 : w'.cell? ⟨p, 0, none⟩ = some v') (c1 : w'.cell? ⟨p, 1, none⟩ = some (.int .i64 1)) (c2 : w'.cell? ⟨p, 2, none⟩ = some (.int .i64 last')) (f0 : w'.frozen? ⟨p, 0, none⟩ = false) (f2 : w'.frozen? ⟨p, 2, none⟩ = false)
    (row : w'.ownsRow 0 91 6 v' R'.length (rowOf R')) (srow : ∀ g, v'.ownBlock = some g → S' g ∧ g ≠ p) (few : R'.length ≤ 800)
    (hn : ∀ n, n ∈ R' → n ∈ R ∨ (n.Ok S' w' ∧ ∀ ad, n.ao = some ad → ad.block ≠ p ∧ some ad.block ≠ v'.ownBlock))
    (hb : ∀ n, n ∈ R → ∀ ad, n.ao = some ad → w'.heap[ad.block]? = w.heap[ad.block]? ∧ some ad.block ≠ v'.ownBlock) : RefAt S' w' p R' last' v' := by
  refine ⟨hS _ h.lt h.sp, c0, c1, c2, f0, f2, row, srow, few, fun n hm => ?_, fun n hm ad e => ?_⟩
  · rcases hn n hm with hr | ⟨ok, _⟩
    · exact (h.node n hr).moved hS hsz fun ad e => (hb n hr ad e).1
    · exact ok
  · rcases hn n hm with hr | ⟨_, hx⟩
    · exact ⟨(h.apart n hr ad e).1, (hb n hr ad e).2⟩
    · exact hx ad e
def Either (b : Bool) (P Q : Prop) : Prop := (b = true → P) ∧ (b = false → Q)
theorem Either.yes {P Q : Prop} (h : P) : Either true P Q := ⟨fun _ => h, fun h => nomatch h⟩
theorem Either.no {P Q : Prop} (h : Q) : Either false P Q := ⟨fun h => (nomatch h), fun _ => h⟩
def nodOf (tag : ByteArray) (key : Int) (text : ByteArray) : Nod := ⟨0, tag, key, none, 0, 0, text, fun _ => ⟨#[]⟩, fun _ => ⟨#[]⟩⟩
theorem nodOf_ok (w : World) {tag text : ByteArray} (key : Int) (ht : tag.size ≤ maxLen) (hx : text.size ≤ maxLen) : (nodOf tag key text).Ok w := ⟨Nat.zero_le _, ht, hx, fun _ hj => absurd hj (Nat.not_lt_zero _)⟩
def createB (len : Nat) (last : Int) (x : Pat) : Bool := oneB (nodOf x.tag x.key x.text) && (x.id == last + 1) && decide (len < 800) && (x.par == 0) && (x.bef == 0) && x.name.toList.isEmpty
def newRN (x : Pat) : RN := { id := x.id, par := 0, tag := x.tag, key := x.key, text := x.text, ats := [], ao := none, an := 0, ac := 0 }
structure Pat.Ok (x : Pat) : Prop where
  tag : x.tag.size ≤ maxLen
  name : x.name.size ≤ maxLen
  text : x.text.size ≤ maxLen
theorem rowOf_set (R : List RN) (k r : Nat) (u : Value) (n : RN) (hk : k < R.length) (hr : r < 6) (hn : (R[k]).cells.set r u = n.cells) : (rowOf R).set (k * 6 + r) u = rowOf (R.set k n) := by
  induction R generalizing k with
  | nil => exact absurd hk (Nat.not_lt_zero _)
  | cons a R ih =>
    have e : rowOf (a :: R) = a.cells ++ rowOf R := by unfold rowOf; rw [List.flatMap_cons]
    rw [e]
    cases k with
    | zero =>
      rw [List.set_append_left _ _ (by show 0 * 6 + r < 6; omega)]
      have e2 : rowOf ((a :: R).set 0 n) = n.cells ++ rowOf R := by unfold rowOf; rw [List.set_cons_zero, List.flatMap_cons]
      rw [e2, ← hn]
      simp
    | succ k =>
      have e2 : rowOf ((a :: R).set (k + 1) n) = a.cells ++ rowOf (R.set k n) := by unfold rowOf; rw [List.set_cons_succ, List.flatMap_cons]
      rw [e2, List.set_append_right _ _ (by show 6 ≤ _; omega)]
      have e3 : (k + 1) * 6 + r - a.cells.length = k * 6 + r := by show _ - 6 = _; omega
      rw [e3, ih k (by simpa using hk) hn]
theorem RefAt.wrote {S S' : Nat → Prop} {w : World} {p : Nat} {R : List RN} {last : Int} {g cap : Nat} (h : RefAt S w p R last (.slice (some ⟨g, 0, none⟩) R.length cap)) (hS : ∀ b, b < w.heap.size → S b → S' b) (k r : Nat) (u : Value) (n : RN) (hk : k < R.length) (hr : r < 6)
    (hn : (R[k]).cells.set r u = n.cells) (hok : n.Ok S' w ∧ ∀ ad, n.ao = some ad → ad.block ≠ p ∧ ad.block ≠ g) : RefAt S' (w.setCell ⟨g, k * 6 + r, none⟩ u) p (R.set k n) last (.slice (some ⟨g, 0, none⟩) R.length cap) := by
  have hs := h.srow g rfl
  have hst := (h.row.stored (k * 6 + r) u).1
  rw [rowOf_set R k r u n hk hr hn] at hst
  have hb : ∀ b, b ≠ g → (w.setCell ⟨g, k * 6 + r, none⟩ u).heap[b]? = w.heap[b]? := fun b hb => Below.heap_setCell _ _ _ _ hb
  have hsz : (w.setCell ⟨g, k * 6 + r, none⟩ u).heap.size = w.heap.size := size_setCell' _ _ _
  have hpg : p ≠ g := fun e => hs.2 e.symm
  refine h.build hS (Nat.le_of_eq hsz.symm) ?_ ?_ ?_ ?_ ?_ (by rw [List.length_set]; exact hst) (fun g' e => ?_) (by rw [List.length_set]; exact h.few) (fun m hm => ?_) (fun m hm ad e => ?_)
  · rw [World.cell?_of_block (w := w) (a := ⟨p, 0, none⟩) (hb p hpg)]; exact h.c0
  · rw [World.cell?_of_block (w := w) (a := ⟨p, 1, none⟩) (hb p hpg)]; exact h.c1
  · rw [World.cell?_of_block (w := w) (a := ⟨p, 2, none⟩) (hb p hpg)]; exact h.c2
  · rw [World.frozen?_of_block (w := w) (a := ⟨p, 0, none⟩) (hb p hpg)]; exact h.f0
  · rw [World.frozen?_of_block (w := w) (a := ⟨p, 2, none⟩) (hb p hpg)]; exact h.f2
  · have e' : g = g' := Option.some.inj e
    subst e'
    exact ⟨hS g (h.row.lt g rfl).2 hs.1, hs.2⟩
  · rcases List.mem_or_eq_of_mem_set hm with hm | rfl
    · exact .inl hm
    · exact .inr ⟨hok.1.moved (fun _ _ h => h) (Nat.le_of_eq hsz.symm) (fun ad e => hb _ (hok.2 ad e).2), fun ad e => ⟨(hok.2 ad e).1, fun e2 => (hok.2 ad e).2 (Option.some.inj e2)⟩⟩
  · have := (h.apart m hm ad e).2
    exact ⟨hb _ (fun e2 => this (by rw [e2]; rfl)), this⟩
theorem attrs_new {S : Nat → Prop} {w w2 w5 w' : World} {n : RN} {l : List (ByteArray × ByteArray)} {a5 : Option Addr} {c5 p g : Nat} (ok : n.Ok S w5) (hf : l.length ≤ 5) (hsz : ∀ x, x ∈ l → x.1.size ≤ maxLen ∧ x.2.size ≤ maxLen) (ho : AttsAt w5 w2.heap.size (.slice a5 l.length c5) l)
    (hs2 : w.heap.size ≤ w2.heap.size) (hp : p < w2.heap.size) (hg : g < w2.heap.size) (hw : w'.heap.size = w5.heap.size) :
    RN.Ok (andNew S w w') w5 { n with ats := l, ao := a5, an := l.length, ac := c5 } ∧ ∀ ad, ({ n with ats := l, ao := a5, an := l.length, ac := c5 } : RN).ao = some ad → ad.block ≠ p ∧ ad.block ≠ g := by
  have hx : ∀ ad, a5 = some ad → w2.heap.size ≤ ad.block ∧ ad.block < w5.heap.size := fun ad e => by
    subst e
    exact World.ownsRow.lt ho ad.block rfl
  refine ⟨⟨rfl, hf, fun e => ?_, ok.tag, ok.text, attrs_of_row ho rfl hsz, fun ad e => ?_⟩, fun ad e => ?_⟩
  · have e : a5 = none := e
    subst e
    rcases ho.2 with ⟨h1, h2⟩ | ⟨g', cap, cur, h1, _⟩
    · simp only [Value.slice.injEq] at h1; exact ⟨h2, h1.2.2⟩
    · simp only [Value.slice.injEq] at h1; cases h1.1
  · have := hx ad e
    exact ⟨.inr ⟨Nat.le_trans hs2 this.1, by rw [hw]; exact this.2⟩, this.2⟩
  · have := hx ad e
    exact ⟨by omega, by omega⟩
theorem unsetP_sub {l : List (ByteArray × ByteArray)} {nm : ByteArray} {n : Nat} (h : n ≤ 5) (hn : n = l.length) : (unsetP l nm).length ≤ 5 := by
  unfold unsetP; exact Nat.le_trans (List.length_filter_le _ _) (by omega)
theorem unsetP_sizes {l : List (ByteArray × ByteArray)} {nm : ByteArray} (h : ∀ x, x ∈ l → x.1.size ≤ maxLen ∧ x.2.size ≤ maxLen) : ∀ x, x ∈ unsetP l nm → x.1.size ≤ maxLen ∧ x.2.size ≤ maxLen := fun x hx => h x (List.mem_filter.1 hx).1
end Go.Proofs.YtobgcaemnpkbmaaGreat
namespace Go.Proofs.YtobgcaemnpkbmaaGreat
open Go.RowKit
theorem find_any {ρ : Roles} {nb : Int → Nat} {w : World} {R : List RN} {n : RN} {av kv : Value} (h : PNode ρ nb w R n av kv) (nm : ByteArray) :
    Calls Tryz.prog 106 #[.pointer (some ⟨nb n.id, 0, none⟩), .string nm] w fun e w' => e = .returned (.tuple #[.int .i64 (posP n.ats nm), .bool (hitP n.ats nm)]) ∧ Below w.heap.size w w' := by
  obtain ⟨ao, c, rfl⟩ := own_shape h.arow
  have c4 : w.cell? ⟨nb n.id, 4, none⟩ = some (.slice ao n.ats.length c) := cell_of_blk h.blk 4 _ rfl
  have HS : Hid (∀ w1, w1 = w → Calls Tryz.prog 121 #[.slice ao n.ats.length c, .string nm, .func (.func 122) #[] #[]] w1 fun e w' => e = .returned (.tuple #[.int .i64 (posP n.ats nm), .bool (hitP n.ats nm)]) ∧ Below w.heap.size w w') :=
    hide fun w1 e => by subst e; exact search_any ao n.ats.length c n.ats nm w1 rfl h.few h.rise (attrs_of_row h.arow rfl h.size)
  clear h
  go_enter Tryz.func106, Tryz.ntmps106
  go_wp2_with (first | (go_at_call 121; refine (unhide HS _ rfl).mono ?_; rintro e w1 ⟨rfl, hb⟩))
  go_ret2
  exact ⟨rfl, hb⟩
set_option maxHeartbeats 2000000 in
set_option maxRecDepth 100000 in
theorem unset_none (ρ : Roles) (nb : Int → Nat) (mb : Nat) (rt : Option Nat) (w : World) (q : Nat) (R : List RN) (last : Int) (h : Dom ρ nb mb rt w q R last) (kd id pa bf ky : Int) (tg nm tx : ByteArray) (hid : I64 id) (hno : ∀ n, n ∈ R → n.id ≠ id) :
    Calls Tryz.prog 90 #[.pointer (some ⟨q, 0, none⟩), .agg #[.int .i64 kd, .int .i64 id, .int .i64 pa, .int .i64 bf, .int .i64 ky, .string tg, .string nm, .string tx]] w fun e w' => e = .returned (.bool false) ∧ Below w.heap.size w w' := by
  have d1 : w.cell? ⟨q, 1, none⟩ = some (.map (some mb)) := cell_of_blk h.blk 1 _ rfl
  have ltq := lt_of_blk h.blk
  have Hlk : Hid (∀ w1, Below w.heap.size w w1 → (Instr.lookup 111 (.map (some mb)) (.int .i64 id) false).run Tryz.prog w1 = .ok (.pointer none) w1) := hide fun w1 hb => by
    have := (h.below hb).map.look hid
    rw [blkOf_no hno] at this
    exact this
  clear h
  go_enter Tryz.func90, Tryz.ntmps90
  go_wp2_with fail
  generalize hw0 : w.alloc (.cells #[.int .i64 kd, .int .i64 id, .int .i64 pa, .int .i64 bf, .int .i64 ky, .string tg, .string nm, .string tx] 29) = w0
  have hb0 : Below w.heap.size w w0 := by rw [← hw0]; exact (Below.refl _ _).alloc (Nat.le_refl _) _
  have lt0 : w.heap.size < w0.heap.size := by rw [← hw0]; simp
  have x1 : w0.cell? ⟨w.heap.size, 1, none⟩ = some (.int .i64 id) := by rw [← hw0]; simp [go_sem]
  have y1 : w0.cell? ⟨q, 1, none⟩ = some (.map (some mb)) := (hb0.cell (p := ⟨q, 1, none⟩) ltq).trans d1
  have lk : ∀ n, (Instr.lookup 111 (.map (some mb)) (.int .i64 id) false).run Tryz.prog (w0.drewN n) = .ok (.pointer none) (w0.drewN n) := fun n => Hlk.out _ ⟨hb0.os, hb0.tape, hb0.output, hb0.size, hb0.block⟩
  have HB0 := hide hb0
  clear hw0 hb0 d1
  go_big_quiet (fail)
  go_wp2_with fail
  go_ret
  exact ⟨rfl, belowD HB0.out _⟩
set_option maxHeartbeats 2000000 in
set_option maxRecDepth 100000 in
theorem unset_not (ρ : Roles) (nb : Int → Nat) (mb : Nat) (rt : Option Nat) (w : World) (q : Nat) (R : List RN) (last : Int) (h : Dom ρ nb mb rt w q R last) (kd id pa bf ky : Int) (tg nm tx : ByteArray) (k : Nat) (hk : k < R.length) (hid : I64 R[k].id) (hidk : R[k].id = id) (hhit : hitP R[k].ats nm = false) :
    Calls Tryz.prog 90 #[.pointer (some ⟨q, 0, none⟩), .agg #[.int .i64 kd, .int .i64 id, .int .i64 pa, .int .i64 bf, .int .i64 ky, .string tg, .string nm, .string tx]] w fun e w' => e = .returned (.bool false) ∧ Below w.heap.size w w' := by
  subst hidk
  obtain ⟨av, kv, hP⟩ := h.node _ (List.getElem_mem hk)
  have d1 : w.cell? ⟨q, 1, none⟩ = some (.map (some mb)) := cell_of_blk h.blk 1 _ rfl
  have ltq := lt_of_blk h.blk
  have Hlk : Hid (∀ w1, Below w.heap.size w w1 → (Instr.lookup 111 (.map (some mb)) (.int .i64 R[k].id) false).run Tryz.prog w1 = .ok (.pointer (some ⟨nb R[k].id, 0, none⟩)) w1) := hide fun w1 hb => by
    have := (h.below hb).map.look hid
    rw [blkOf_yes (List.getElem_mem hk)] at this
    exact this
  have HFd : Hid (∀ w1, Below w.heap.size w w1 → Calls Tryz.prog 106 #[.pointer (some ⟨nb R[k].id, 0, none⟩), .string nm] w1 fun e w' => e = .returned (.tuple #[.int .i64 (posP R[k].ats nm), .bool false]) ∧ Below w1.heap.size w1 w') := hide fun w1 hb => by
    have := find_any (hP.kept (R' := R) (w' := w1) (ρ' := ρ) (fun b j e => hb.block b (h.low b (by rw [e]; rfl))) (fun _ _ => rfl) rfl) nm
    rw [hhit] at this
    exact this
  clear h hP
  go_enter Tryz.func90, Tryz.ntmps90
  go_wp2_with fail
  generalize hw0 : w.alloc (.cells #[.int .i64 kd, .int .i64 R[k].id, .int .i64 pa, .int .i64 bf, .int .i64 ky, .string tg, .string nm, .string tx] 29) = w0
  have hb0 : Below w.heap.size w w0 := by rw [← hw0]; exact (Below.refl _ _).alloc (Nat.le_refl _) _
  have lt0 : w.heap.size < w0.heap.size := by rw [← hw0]; simp
  have x1 : w0.cell? ⟨w.heap.size, 1, none⟩ = some (.int .i64 R[k].id) := by rw [← hw0]; simp [go_sem]
  have x6 : w0.cell? ⟨w.heap.size, 6, none⟩ = some (.string nm) := by rw [← hw0]; simp [go_sem]
  have y1 : w0.cell? ⟨q, 1, none⟩ = some (.map (some mb)) := (hb0.cell (p := ⟨q, 1, none⟩) ltq).trans d1
  have lk : ∀ n, (Instr.lookup 111 (.map (some mb)) (.int .i64 R[k].id) false).run Tryz.prog (w0.drewN n) = .ok (.pointer (some ⟨nb R[k].id, 0, none⟩)) (w0.drewN n) := fun n => Hlk.out _ ⟨hb0.os, hb0.tape, hb0.output, hb0.size, hb0.block⟩
  have HB0 := hide hb0
  clear hw0 hb0 d1
  go_big_quiet (fail)
  go_wp2_with (first | (go_at_call 106; refine (unhide HFd _ (belowD (unhide HB0) _)).mono ?_; rintro e w1 ⟨rfl, hb1⟩; have HB1 := hide ((belowD (unhide HB0) _).trans (hb1.mono (unhide HB0).size)); clear hb1))
  go_ret
  exact ⟨rfl, HB1.out⟩
theorem attrCells_append (l m : List (ByteArray × ByteArray)) : attrCells (l ++ m) = attrCells l ++ attrCells m := by unfold attrCells; rw [List.flatMap_append]
theorem attrCells_take (l : List (ByteArray × ByteArray)) (i : Nat) : attrCells (l.take i) = (attrCells l).take (i * 2) := by
  induction l generalizing i with
  | nil => simp [attrCells]
  | cons a l ih =>
    cases i with
    | zero => simp [attrCells]
    | succ i =>
      have e : attrCells (a :: l) = [.string a.1, .string a.2] ++ attrCells l := rfl
      rw [List.take_succ_cons, e, show (i + 1) * 2 = i * 2 + 1 + 1 by omega]
      show [.string a.1, .string a.2] ++ attrCells (l.take i) = _
      rw [ih i]
      rfl
theorem attrCells_drop (l : List (ByteArray × ByteArray)) (i : Nat) : attrCells (l.drop i) = (attrCells l).drop (i * 2) := by
  induction l generalizing i with
  | nil => simp [attrCells]
  | cons a l ih =>
    cases i with
    | zero => simp
    | succ i =>
      have e : attrCells (a :: l) = [.string a.1, .string a.2] ++ attrCells l := rfl
      rw [List.drop_succ_cons, e, show (i + 1) * 2 = i * 2 + 1 + 1 by omega, ih i]
      rfl
set_option maxHeartbeats 2000000 in
set_option maxRecDepth 100000 in
theorem unset_ok (ρ : Roles) (nb : Int → Nat) (mb : Nat) (rt : Option Nat) (w : World) (q : Nat) (R : List RN) (last : Int) (h : Dom ρ nb mb rt w q R last) (kd id pa bf ky : Int) (tg nm tx : ByteArray) (k : Nat) (hk : k < R.length) (hid : I64 R[k].id) (hidk : R[k].id = id) (hI : Ids R) (hhit : hitP R[k].ats nm = true) :
    Calls Tryz.prog 90 #[.pointer (some ⟨q, 0, none⟩), .agg #[.int .i64 kd, .int .i64 id, .int .i64 pa, .int .i64 bf, .int .i64 ky, .string tg, .string nm, .string tx]] w fun e w' => e = .returned (.bool true) ∧ ∃ ρ', Wrote ρ ρ' w w' ∧ Dom ρ' nb mb rt w' q (R.set k { R[k] with ats := unsetP R[k].ats nm }) last := by
  subst hidk
  obtain ⟨av, kv, hP⟩ := h.node _ (List.getElem_mem hk)
  have d1 : w.cell? ⟨q, 1, none⟩ = some (.map (some mb)) := cell_of_blk h.blk 1 _ rfl
  have ltq := lt_of_blk h.blk
  have Hlk : Hid (∀ w1, Below w.heap.size w w1 → (Instr.lookup 111 (.map (some mb)) (.int .i64 R[k].id) false).run Tryz.prog w1 = .ok (.pointer (some ⟨nb R[k].id, 0, none⟩)) w1) := hide fun w1 hb => by
    have := (h.below hb).map.look hid
    rw [blkOf_yes (List.getElem_mem hk)] at this
    exact this
  have HFd : Hid (∀ w1, Below w.heap.size w w1 → Calls Tryz.prog 106 #[.pointer (some ⟨nb R[k].id, 0, none⟩), .string nm] w1 fun e w' => e = .returned (.tuple #[.int .i64 (posP R[k].ats nm), .bool true]) ∧ Below w1.heap.size w1 w') := hide fun w1 hb => by
    have := find_any (hP.kept (R' := R) (w' := w1) (ρ' := ρ) (fun b j e => hb.block b (h.low b (by rw [e]; rfl))) (fun _ _ => rfl) rfl) nm
    rw [hhit] at this
    exact this
  have hposn : posP R[k].ats nm < R[k].ats.length := by
    unfold hitP at hhit
    simp only [Bool.and_eq_true, decide_eq_true_eq] at hhit
    exact hhit.1
  obtain ⟨g, c, rfl⟩ : ∃ g c, av = .slice (some ⟨g, 0, none⟩) R[k].ats.length c := by
    rcases hP.arow.2 with ⟨_, e⟩ | ⟨g, cap, cur, e, _⟩
    · omega
    · exact ⟨g, cap, e⟩
  have hfew := hP.few
  have c4 : w.cell? ⟨nb R[k].id, 4, none⟩ = some (.slice (some ⟨g, 0, none⟩) R[k].ats.length c) := cell_of_blk hP.blk 4 _ rfl
  have f4 := frozen_of_blk hP.blk 4
  have ltK := hP.lt
  have hgK : g ≠ nb R[k].id := fun e => by
    have := hP.arole g rfl
    rw [e, hP.role] at this
    have := (Prod.mk.inj (Option.some.inj this)).2
    omega
  have hgl : g < w.heap.size := (hP.arow.lt g rfl).2
  have HDl : Hid (∀ w1, Below w.heap.size w w1 → Calls Tryz.prog 108 #[.slice (some ⟨g, 0, none⟩) R[k].ats.length c, .int .i64 (posP R[k].ats nm), .int .i64 ((posP R[k].ats nm : Int) + 1)] w1 fun e w' => e = .returned (.slice (some ⟨g, 0, none⟩) (R[k].ats.length - 1) c) ∧
      w'.ownsRow 0 72 2 (.slice (some ⟨g, 0, none⟩) (R[k].ats.length - 1) c) (R[k].ats.length - 1) (attrCells (unsetP R[k].ats nm)) ∧ w1.grownBy w' (some g) ∧ w'.heap.size = w1.heap.size) := hide fun w1 hb => by
    have := delete_attr g R[k].ats.length c (posP R[k].ats nm) (posP R[k].ats nm + 1) (attrCells R[k].ats) w1 (ownsRow_below hP.arow hb) hposn rfl (attrCells_one _)
    rw [unsetP_pos hP.rise, hhit, if_pos rfl, attrCells_append, attrCells_take, attrCells_drop]
    exact this
  have HD := hide h
  have HP := hide hP
  clear h hP
  go_enter Tryz.func90, Tryz.ntmps90
  go_wp2_with fail
  generalize hw0 : w.alloc (.cells #[.int .i64 kd, .int .i64 R[k].id, .int .i64 pa, .int .i64 bf, .int .i64 ky, .string tg, .string nm, .string tx] 29) = w0
  have hb0 : Below w.heap.size w w0 := by rw [← hw0]; exact (Below.refl _ _).alloc (Nat.le_refl _) _
  have lt0 : w.heap.size < w0.heap.size := by rw [← hw0]; simp
  have x1 : w0.cell? ⟨w.heap.size, 1, none⟩ = some (.int .i64 R[k].id) := by rw [← hw0]; simp [go_sem]
  have x6 : w0.cell? ⟨w.heap.size, 6, none⟩ = some (.string nm) := by rw [← hw0]; simp [go_sem]
  have y1 : w0.cell? ⟨q, 1, none⟩ = some (.map (some mb)) := (hb0.cell (p := ⟨q, 1, none⟩) ltq).trans d1
  have lk : ∀ n, (Instr.lookup 111 (.map (some mb)) (.int .i64 R[k].id) false).run Tryz.prog (w0.drewN n) = .ok (.pointer (some ⟨nb R[k].id, 0, none⟩)) (w0.drewN n) := fun n => Hlk.out _ ⟨hb0.os, hb0.tape, hb0.output, hb0.size, hb0.block⟩
  have HB0 := hide hb0
  clear hw0 hb0 d1
  go_big_quiet (fail)
  go_wp2_with (first | (go_at_call 106; refine (unhide HFd _ (belowD (unhide HB0) _)).mono ?_; rintro e w1 ⟨rfl, hb1⟩; have HB1 := hide ((belowD (unhide HB0) _).trans (hb1.mono (unhide HB0).size)); clear hb1; have p4 := ((unhide HB1).cell (p := ⟨nb R[k].id, 4, none⟩) ltK).trans c4) | (go_at_call 108; refine (unhide HDl _ (unhide HB1)).mono ?_; rintro e w2 ⟨rfl, hrow, hgr, hsz⟩; have hqK : w2.heap[nb R[k].id]? = w.heap[nb R[k].id]? := (hgr.block _ (Nat.lt_of_lt_of_le ltK (unhide HB1).size) (fun e => hgK (Option.some.inj e).symm)).trans ((unhide HB1).block _ ltK); have i4 := (World.cell?_of_block (w := w) (a := ⟨nb R[k].id, 4, none⟩) hqK).trans c4; have j4 := (World.frozen?_of_block (w := w) (a := ⟨nb R[k].id, 4, none⟩) hqK).trans f4; have HRow := hide hrow; have HGr := hide hgr; have HSz := hide hsz; have HQK := hide hqK; clear hrow hgr hsz hqK))
  go_ret
  have hs1 := HB1.out.size
  have hs2 := HSz.out
  have hblk : ∀ b, b < w.heap.size → b ≠ nb R[k].id → b ≠ g → (w2.setCell ⟨nb R[k].id, 4, none⟩ (.slice (some ⟨g, 0, none⟩) (R[k].ats.length - 1) c)).heap[b]? = w.heap[b]? := fun b hb h1 h2 =>
    (Below.heap_setCell _ _ _ _ h1).trans ((HGr.out.block b (by omega) (fun e => h2 (Option.some.inj e))).trans (HB1.out.block b hb))
  have hlen : (unsetP R[k].ats nm).length = R[k].ats.length - 1 := by
    rw [unsetP_pos HP.out.rise, hhit, if_pos rfl]
    simp
    omega
  refine ⟨rfl, ρ, ⟨⟨HGr.out.os.trans HB1.out.os, HGr.out.tape.trans HB1.out.tape, HGr.out.output.trans HB1.out.output, by rw [size_setCell']; omega, fun b hb hn => ?_⟩, fun _ _ => rfl, fun _ h => .inl h⟩, ?_⟩
  · exact hblk b hb (fun e => hn (by rw [e, HP.out.role]; rfl)) (fun e => hn (by rw [e, HP.out.arole g rfl]; rfl))
  · have hold : ∀ b r, ρ b = some r → r ≠ (R[k].id, 0) → r ≠ (R[k].id, 1) → (w2.setCell ⟨nb R[k].id, 4, none⟩ (.slice (some ⟨g, 0, none⟩) (R[k].ats.length - 1) c)).heap[b]? = w.heap[b]? := fun b r e h0 h1 => by
      refine hblk b (HD.out.low b (by rw [e]; rfl)) (fun x => h0 ?_) (fun x => h1 ?_)
      · rw [x, HP.out.role] at e; exact (Option.some.inj e).symm
      · rw [x, HP.out.arole g rfl] at e; exact (Option.some.inj e).symm
    refine Dom.put (n' := { R[k] with ats := unsetP R[k].ats nm }) (av' := .slice (some ⟨g, 0, none⟩) (R[k].ats.length - 1) c) (kv' := kv) HD.out hI hk rfl rfl (fun _ _ => rfl) (fun b e => by rw [size_setCell']; have := HD.out.low b e; omega) (fun b r e hr => hold b r e (fun x => hr (by rw [x])) (fun x => hr (by rw [x]))) ⟨?_, HP.out.role, ?_, HP.out.arole, ?_, HP.out.krole, ?_, rises_erase HP.out.rise, HP.out.tag, HP.out.text, fun x hx => HP.out.size x (unsetP_mem hx)⟩
    · exact set_blk (i := 4) (HQK.out.trans HP.out.blk) (.slice (some ⟨g, 0, none⟩) (R[k].ats.length - 1) c)
    · show World.ownsRow _ _ _ _ _ (unsetP R[k].ats nm).length _
      rw [hlen]
      exact own_heap HRow.out fun b e => Below.heap_setCell _ _ _ _ (by cases e; exact hgK)
    · exact own_heap HP.out.krow fun b e => hold b _ (HP.out.krole b e) (fun x => by have := (Prod.mk.inj x).2; omega) (fun x => by have := (Prod.mk.inj x).2; omega)
    · show (unsetP R[k].ats nm).length ≤ 5
      omega
end Go.Proofs.YtobgcaemnpkbmaaGreat
