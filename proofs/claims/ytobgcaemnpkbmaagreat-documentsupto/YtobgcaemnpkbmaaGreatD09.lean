/- Srt Fnd Rep Tk -/
import Derived.Test.YtobgcaemnpkbmaaGreatD05
import Derived.Lib.Bytealg
import Derived.Test.YtobgcaemnpkbmaaGreatD03
import Derived.Lib.Slices
import Derived.Test.YtobgcaemnpkbmaaGreatD06
import Derived.Test.YtobgcaemnpkbmaaGreatD08
namespace Go.Proofs.YtobgcaemnpkbmaaGreat
open Go.RowKit
theorem less_irrefl : ∀ x : List UInt8, Op.bytesLess x x = false := by
  intro x
  induction x with
  | nil => rfl
  | cons a x ih => simp [Op.bytesLess, ih]
theorem less_trans : ∀ x y z : List UInt8, Op.bytesLess x y = true → Op.bytesLess y z = true → Op.bytesLess x z = true := by
  intro x
  induction x with
  | nil =>
    intro y z h1 h2
    cases z with
    | nil => cases y <;> simp [Op.bytesLess] at h2
    | cons c z => rfl
  | cons a x ih =>
    intro y z h1 h2
    cases y with
    | nil => simp [Op.bytesLess] at h1
    | cons b y =>
      cases z with
      | nil => simp [Op.bytesLess] at h2
      | cons c z =>
        simp only [Op.bytesLess, Bool.or_eq_true, decide_eq_true_eq, Bool.and_eq_true, beq_iff_eq] at h1 h2 ⊢
        rcases h1 with h1 | ⟨rfl, h1⟩
        · rcases h2 with h2 | ⟨rfl, h2⟩
          · left; exact UInt8.lt_trans h1 h2
          · left; exact h1
        · rcases h2 with h2 | ⟨rfl, h2⟩
          · left; exact h2
          · right; exact ⟨rfl, ih y z h1 h2⟩
theorem less_total : ∀ x y : List UInt8, Op.bytesLess x y = false → Op.bytesLess y x = false → x = y := by
  intro x
  induction x with
  | nil =>
    intro y h1 h2
    cases y with
    | nil => rfl
    | cons b y => simp [Op.bytesLess] at h1
  | cons a x ih =>
    intro y h1 h2
    cases y with
    | nil => simp [Op.bytesLess] at h2
    | cons b y =>
      simp only [Op.bytesLess, Bool.or_eq_false_iff, decide_eq_false_iff_not, Bool.and_eq_false_iff, beq_eq_false_iff_ne] at h1 h2
      have hab : a = b := by
        have h3 := h1.1
        have h4 := h2.1
        rw [UInt8.lt_iff_toNat_lt] at h3 h4
        exact UInt8.toNat_inj.1 (by omega)
      subst hab
      rw [ih y (h1.2.resolve_left (fun h => h rfl)) (h2.2.resolve_left (fun h => h rfl))]
theorem cmp_neg : ∀ x y : List UInt8, Lib.compareBytes x y < 0 ↔ Op.bytesLess x y = true := by
  intro x
  induction x with
  | nil => intro y; cases y <;> simp [Lib.compareBytes, Op.bytesLess]
  | cons a x ih =>
    intro y
    cases y with
    | nil => simp [Lib.compareBytes, Op.bytesLess]
    | cons b y =>
      simp only [Lib.compareBytes, Op.bytesLess, Bool.or_eq_true, decide_eq_true_eq, Bool.and_eq_true, beq_iff_eq]
      by_cases h1 : a < b
      · simp [h1]
      · by_cases h2 : b < a
        · have h3 : a ≠ b := fun e => by subst e; exact UInt8.lt_irrefl _ h2
          simp [h1, h2, h3]
        · have hab : a = b := by
            rw [UInt8.lt_iff_toNat_lt] at h1 h2
            exact UInt8.toNat_inj.1 (by omega)
          simp [hab, ih y]
theorem cmp_zero : ∀ x y : List UInt8, Lib.compareBytes x y = 0 ↔ x = y := by
  intro x
  induction x with
  | nil => intro y; cases y <;> simp [Lib.compareBytes]
  | cons a x ih =>
    intro y
    cases y with
    | nil => simp [Lib.compareBytes]
    | cons b y =>
      simp only [Lib.compareBytes, List.cons.injEq]
      by_cases h1 : a < b
      · have h3 : a ≠ b := fun e => by subst e; exact UInt8.lt_irrefl _ h1
        simp [h1, h3]
      · by_cases h2 : b < a
        · have h3 : a ≠ b := fun e => by subst e; exact UInt8.lt_irrefl _ h2
          simp [h1, h2, h3]
        · have hab : a = b := by
            rw [UInt8.lt_iff_toNat_lt] at h1 h2
            exact UInt8.toNat_inj.1 (by omega)
          simp [hab, ih y]
def lessB (a b : ByteArray) : Bool := Op.bytesLess a.toList b.toList
theorem sameB_iff {a b : ByteArray} : sameB a b = true ↔ a.toList = b.toList := by unfold sameB; simp
def Rises (l : List (ByteArray × ByteArray)) : Prop := l.Pairwise fun x y => lessB x.1 y.1 = true
def posP (l : List (ByteArray × ByteArray)) (nm : ByteArray) : Nat := (l.takeWhile fun x => lessB x.1 nm).length
theorem posP_le (l : List (ByteArray × ByteArray)) (nm : ByteArray) : posP l nm ≤ l.length := (List.takeWhile_sublist _).length_le
theorem posP_cons_lt {x : ByteArray × ByteArray} {l : List (ByteArray × ByteArray)} {nm : ByteArray} (h : lessB x.1 nm = true) : posP (x :: l) nm = posP l nm + 1 := by unfold posP; simp [h]
theorem posP_cons_ge {x : ByteArray × ByteArray} {l : List (ByteArray × ByteArray)} {nm : ByteArray} (h : lessB x.1 nm = false) : posP (x :: l) nm = 0 := by unfold posP; simp [h]
theorem posP_iff {l : List (ByteArray × ByteArray)} {nm : ByteArray} (hs : Rises l) : ∀ i, (hi : i < l.length) → (lessB l[i].1 nm = true ↔ i < posP l nm) := by
  induction l with
  | nil => intro i hi; exact absurd hi (Nat.not_lt_zero _)
  | cons x l ih =>
    intro i hi
    have hs' := List.pairwise_cons.1 hs
    cases hx : lessB x.1 nm with
    | true =>
      rw [posP_cons_lt hx]
      cases i with
      | zero => simp [hx]
      | succ i => rw [List.getElem_cons_succ, ih hs'.2 i (by simpa using hi)]; omega
    | false =>
      rw [posP_cons_ge hx]
      cases i with
      | zero => simp [hx]
      | succ i =>
        have hi' : i < l.length := by simpa using hi
        rw [List.getElem_cons_succ]
        refine ⟨fun h => ?_, fun h => absurd h (Nat.not_lt_zero _)⟩
        have h1 := hs'.1 l[i] (List.getElem_mem hi')
        have := less_trans _ _ _ h1 h
        unfold lessB at hx
        rw [hx] at this
        cases this
theorem posP_of {l : List (ByteArray × ByteArray)} {nm : ByteArray} {k : Nat} (hs : Rises l) (hk : k ≤ l.length) (h1 : ∀ i, (hi : i < l.length) → i < k → lessB l[i].1 nm = true) (h2 : ∀ i, (hi : i < l.length) → k ≤ i → lessB l[i].1 nm = false) : posP l nm = k := by
  have hp := posP_le l nm
  by_cases h : posP l nm < k
  · have := (posP_iff hs (nm := nm) (posP l nm) (by omega)).1 (h1 _ (by omega) h)
    omega
  · by_cases h' : k < posP l nm
    · have := (posP_iff hs (nm := nm) k (by omega)).2 h'
      rw [h2 k (by omega) (Nat.le_refl _)] at this
      cases this
    · omega
def hitP (l : List (ByteArray × ByteArray)) (nm : ByteArray) : Bool := decide (posP l nm < l.length) && sameB (attAt l (posP l nm)).1 nm
theorem rises_erase {l : List (ByteArray × ByteArray)} {nm : ByteArray} (h : Rises l) : Rises (unsetP l nm) := List.Pairwise.filter _ h
theorem same_less {a b c : ByteArray} (h : sameB a b = true) : lessB a c = lessB b c := by unfold lessB; rw [sameB_iff.1 h]
theorem less_same {a b c : ByteArray} (h : sameB b c = true) : lessB a b = lessB a c := by unfold lessB; rw [sameB_iff.1 h]
theorem same_not_less {a b : ByteArray} (h : sameB a b = true) : lessB a b = false := by rw [same_less h]; exact less_irrefl _
theorem unsetP_pos {l : List (ByteArray × ByteArray)} {nm : ByteArray} (hs : Rises l) : unsetP l nm = if hitP l nm then l.take (posP l nm) ++ l.drop (posP l nm + 1) else l := by
  induction l with
  | nil => rfl
  | cons x l ih =>
    have hs' := List.pairwise_cons.1 hs
    have hall : lessB x.1 nm = false → ∀ y, y ∈ l → sameB y.1 nm = false := fun hx y hy => by
      cases he : sameB y.1 nm with
      | false => rfl
      | true =>
        have := hs'.1 y hy
        rw [less_same he, hx] at this
        cases this
    have hu : unsetP (x :: l) nm = if sameB x.1 nm then unsetP l nm else x :: unsetP l nm := by
      unfold unsetP
      rw [List.filter_cons]
      cases sameB x.1 nm <;> rfl
    cases hx : lessB x.1 nm with
    | true =>
      have hne : sameB x.1 nm = false := by
        cases he : sameB x.1 nm with
        | false => rfl
        | true => rw [same_not_less he] at hx; cases hx
      have hh : hitP (x :: l) nm = hitP l nm := by
        unfold hitP
        rw [posP_cons_lt hx]
        simp [attAt]
      rw [hu, hne, hh, posP_cons_lt hx, ih hs'.2]
      cases hitP l nm <;> simp
    | false =>
      have hl : unsetP l nm = l := by
        unfold unsetP
        rw [List.filter_eq_self]
        intro y hy
        rw [hall hx y hy]; rfl
      rw [hu, hl]
      have hh : hitP (x :: l) nm = sameB x.1 nm := by
        unfold hitP
        rw [posP_cons_ge hx]
        simp [attAt]
      rw [hh, posP_cons_ge hx]
      cases sameB x.1 nm <;> simp
end Go.Proofs.YtobgcaemnpkbmaaGreat
namespace Go.Proofs.YtobgcaemnpkbmaaGreat
open Go.RowKit
set_option maxHeartbeats 1000000 in
set_option maxRecDepth 100000 in
theorem compareString_any (a b : ByteArray) (w : World) :
    Calls Tryz.prog 132 #[.string a, .string b] w fun e w' => e = .returned (.int .i64 (Lib.compareBytes a.data.toList b.data.toList)) ∧ w' = w := by
  go_enter Tryz.func132, Tryz.ntmps132
  go_wp2
  rw [run_callFunc_extern Tryz.func135 (by kernel_rfl) (by kernel_rfl) (by kernel_rfl) (e := Extern.BytealgCompare.compare) (by kernel_rfl), Lib.run_compareString]
  simp only [Result.andThen]
  rw [Oper.upon_value]
  go_wp2
  go_ret
  exact ⟨rfl, rfl⟩
theorem compare_any (a b : ByteArray) (w : World) :
    Calls Tryz.prog 123 #[.string a, .string b] w fun e w' => e = .returned (.int .i64 (Lib.compareBytes a.data.toList b.data.toList)) ∧ w' = w := by
  go_enter Tryz.func123, Tryz.ntmps123
  go_wp2_with (go_at_call 132; refine (compareString_any _ _ _).mono ?_; rintro e w' ⟨rfl, rfl⟩)
  go_ret
  exact ⟨rfl, rfl⟩
def cmpP (a b : ByteArray) : Int := Lib.compareBytes a.data.toList b.data.toList
theorem closure_any (a v b : ByteArray) (w : World) :
    Calls Tryz.prog 122 #[.agg #[.string a, .string v], .string b] w fun e w' => e = .returned (.int .i64 (cmpP a b)) ∧ Below w.heap.size w w' := by
  go_enter Tryz.func122, Tryz.ntmps122
  go_wp2_with (go_at_call 123; refine (compare_any _ _ _).mono ?_; rintro e w' ⟨rfl, rfl⟩)
  go_ret
  exact ⟨rfl, (Below.refl _ _).alloc (Nat.le_refl _) _⟩
theorem toList_data (a : ByteArray) : a.toList = a.data.toList := by
  exact Lib.toList_data a
theorem cmpP_neg (a b : ByteArray) : decide (cmpP a b < 0) = lessB a b := by
  unfold cmpP lessB
  rw [toList_data, toList_data]
  cases h : Op.bytesLess a.data.toList b.data.toList with
  | true => exact decide_eq_true ((cmp_neg _ _).2 h)
  | false => exact decide_eq_false (fun e => by rw [(cmp_neg _ _).1 e] at h; cases h)
theorem cmpP_zero (a b : ByteArray) : decide (cmpP a b = 0) = sameB a b := by
  unfold cmpP sameB
  rw [toList_data, toList_data]
  by_cases h : a.data.toList = b.data.toList
  · rw [decide_eq_true ((cmp_zero _ _).2 h), h, beq_self_eq_true]
  · rw [decide_eq_false (fun e => h ((cmp_zero _ _).1 e))]
    exact (beq_eq_false_iff_ne.2 h).symm
set_option maxHeartbeats 1000000 in
set_option maxRecDepth 100000 in
theorem search_any (ao : Option Addr) (n c : Nat) (l : List (ByteArray × ByteArray)) (nm : ByteArray) (w : World) (hn : n = l.length) (hfew : n ≤ 5) (hs : Rises l) (hat : AttrsAt w ao n (nmOf l) (vlOf l)) :
    Calls Tryz.prog 121 #[.slice ao n c, .string nm, .func (.func 122) #[] #[]] w fun e w' => e = .returned (.tuple #[.int .i64 (posP l nm), .bool (hitP l nm)]) ∧ Below w.heap.size w w' := by
  have HN := hide hn
  have HS := hide hs
  have HA := hide hat
  clear hn hs hat
  go_enter Tryz.func121, Tryz.ntmps121
  go_wp2_with fail
  go_loopw [9, 10, 11] (fun i j _ wr => ∃ a b : Nat, i = .int .i64 a ∧ j = .int .i64 b ∧ a ≤ b ∧ b ≤ n ∧ Hid (∀ t, (ht : t < l.length) → t < a → lessB l[t].1 nm = true) ∧ Hid (∀ t, (ht : t < l.length) → b ≤ t → lessB l[t].1 nm = false) ∧ Hid (Below w.heap.size w wr)) (fun i j _ _ => (intOf j).toNat - (intOf i).toNat)
  case atStart => exact ⟨0, n, rfl, rfl, Nat.zero_le _, Nat.le_refl _, hide (fun _ _ h => absurd h (Nat.not_lt_zero _)), hide (fun t ht h => by have := HN.out; omega), hide (Below.refl _ _)⟩
  case round =>
    obtain ⟨a, b, rfl, rfl, hab, hbn, hlo, hhi, hb⟩ := hrel
    have hnl1 : n ≤ l.length := by have := HN.out; omega
    have hnl2 : l.length ≤ n := by have := HN.out; omega
    by_cases hlt : a < b
    · have hml : (a + b) / 2 < l.length := by omega
      obtain ⟨g, o, hao, hgw, c0, c1, _, _⟩ := HA.out ((a + b) / 2) (by omega)
      subst hao
      have d0 : wr.cell? ⟨g, o + (a + b) / 2 * 2, none⟩ = some (.string l[(a + b) / 2].1) := by rw [hb.out.cell (p := ⟨g, o + (a + b) / 2 * 2, none⟩) hgw, c0]; unfold nmOf; rw [List.getD_eq_getElem?_getD, List.getElem?_eq_getElem hml]; rfl
      have d1 : wr.cell? ⟨g, o + (a + b) / 2 * 2 + 1, none⟩ = some (.string l[(a + b) / 2].2) := by rw [hb.out.cell (p := ⟨g, o + (a + b) / 2 * 2 + 1, none⟩) hgw, c1]; unfold vlOf; rw [List.getD_eq_getElem?_getD, List.getElem?_eq_getElem hml]; rfl
      have HC : Hid (∀ w, Calls Tryz.prog 122 #[.agg #[.string l[(a + b) / 2].1, .string l[(a + b) / 2].2], .string nm] w fun e w' => e = .returned (.int .i64 (cmpP l[(a + b) / 2].1 nm)) ∧ Below w.heap.size w w') := hide (fun w => closure_any _ _ _ w)
      have hrl := cmpP_neg l[(a + b) / 2].1 nm
      have HLs : Hid (∀ t, (ht : t < l.length) → (lessB l[(a + b) / 2].1 nm = true → t ≤ (a + b) / 2 → lessB l[t].1 nm = true) ∧ (lessB l[(a + b) / 2].1 nm = false → (a + b) / 2 ≤ t → lessB l[t].1 nm = false)) := by
        refine hide fun t ht => ⟨fun h hle => ?_, fun h hle => ?_⟩
        · exact (posP_iff (nm := nm) HS.out t ht).2 (by have := (posP_iff (nm := nm) HS.out _ hml).1 h; omega)
        · cases hx : lessB l[t].1 nm with
          | false => rfl
          | true =>
            have := (posP_iff (nm := nm) HS.out _ hml).2 (by have := (posP_iff (nm := nm) HS.out t ht).1 hx; omega)
            rw [h] at this
            cases this
      generalize hA1 : l[(a + b) / 2].1 = A1 at *
      generalize hA2 : l[(a + b) / 2].2 = A2 at *
      generalize hr : cmpP A1 nm = r at *
      have HR := hide hrl
      clear c0 c1 hr hrl hA1 hA2
      by_cases hneg : r < 0
      · have hl : lessB A1 nm = true := by rw [← HR.out]; exact decide_eq_true hneg
        have HL := hide hl
        clear hl
        go_wp2_with (first | (go_at_call 122; refine (unhide HC _).mono ?_; rintro e w1 ⟨rfl, hb1⟩; have HB1 := hide hb1; clear hb1))
        go_roundw
        case rel =>
          exact ⟨(a + b) / 2 + 1, b, by go_num, rfl, by omega, hbn, hide (fun t ht h => (HLs.out t ht).1 HL.out (by omega)), hhi, hide (hb.out.trans (HB1.out.mono hb.out.size))⟩
        case measure => simp [intOf]; omega
      · have hl : lessB A1 nm = false := by rw [← HR.out]; exact decide_eq_false hneg
        have HL := hide hl
        clear hl
        go_wp2_with (first | (go_at_call 122; refine (unhide HC _).mono ?_; rintro e w1 ⟨rfl, hb1⟩; have HB1 := hide hb1; clear hb1))
        go_roundw
        case rel => exact ⟨a, (a + b) / 2, rfl, by go_num, by omega, by omega, hlo, hide (fun t ht h => (HLs.out t ht).2 HL.out h), hide (hb.out.trans (HB1.out.mono hb.out.size))⟩
        case measure => simp [intOf]; omega
    · have hba : b = a := by omega
      subst hba
      have HPos : Hid (posP l nm = b) := hide (posP_of HS.out (by omega) hlo.out hhi.out)
      by_cases hend : b < n
      · have hml : b < l.length := by omega
        obtain ⟨g, o, hao, hgw, c0, c1, _, _⟩ := HA.out b (by omega)
        subst hao
        have d0 : wr.cell? ⟨g, o + b * 2, none⟩ = some (.string l[b].1) := by rw [hb.out.cell (p := ⟨g, o + b * 2, none⟩) hgw, c0]; unfold nmOf; rw [List.getD_eq_getElem?_getD, List.getElem?_eq_getElem hml]; rfl
        have d1 : wr.cell? ⟨g, o + b * 2 + 1, none⟩ = some (.string l[b].2) := by rw [hb.out.cell (p := ⟨g, o + b * 2 + 1, none⟩) hgw, c1]; unfold vlOf; rw [List.getD_eq_getElem?_getD, List.getElem?_eq_getElem hml]; rfl
        have HC : Hid (∀ w, Calls Tryz.prog 122 #[.agg #[.string l[b].1, .string l[b].2], .string nm] w fun e w' => e = .returned (.int .i64 (cmpP l[b].1 nm)) ∧ Below w.heap.size w w') := hide (fun w => closure_any _ _ _ w)
        have HH : Hid (hitP l nm = decide (cmpP l[b].1 nm = 0)) := by
          refine hide ?_
          unfold hitP
          rw [HPos.out, cmpP_zero, decide_eq_true hml, Bool.true_and, attAt_lt hml]
        generalize hA1 : l[b].1 = A1 at *
        generalize hA2 : l[b].2 = A2 at *
        generalize hr : cmpP A1 nm = r at *
        clear c0 c1 hr hA1 hA2
        have hi1 : (b : Int) < (n : Int) := by omega
        by_cases hz : r = 0
        · have HH1 : Hid (hitP l nm = true) := by rw [HH.out, decide_eq_true hz]; exact hide rfl
          go_wp2_with (first | (go_at_call 122; refine (unhide HC _).mono ?_; rintro e w1 ⟨rfl, hb1⟩; have HB1 := hide hb1; clear hb1))
          go_ret2
          refine ⟨?_, hb.out.trans (HB1.out.mono hb.out.size)⟩
          rw [HPos.out, HH1.out]
          first | rfl | simp [hz]
        · have HH1 : Hid (hitP l nm = false) := by rw [HH.out, decide_eq_false hz]; exact hide rfl
          go_wp2_with (first | (go_at_call 122; refine (unhide HC _).mono ?_; rintro e w1 ⟨rfl, hb1⟩; have HB1 := hide hb1; clear hb1))
          go_ret2
          refine ⟨?_, hb.out.trans (HB1.out.mono hb.out.size)⟩
          rw [HPos.out, HH1.out]
          first | rfl | simp [hz]
      · have HH1 : Hid (hitP l nm = false) := by
          refine hide ?_
          unfold hitP
          rw [HPos.out, decide_eq_false (by omega)]
          rfl
        have hi1 : ¬ (b : Int) < (n : Int) := by omega
        go_wp2_with fail
        go_ret2
        refine ⟨?_, hb.out⟩
        rw [HPos.out, HH1.out]
        first | rfl | simp
end Go.Proofs.YtobgcaemnpkbmaaGreat
namespace Go.Proofs.YtobgcaemnpkbmaaGreat
open Go.RowKit
def parPtr (nb : Int → Nat) (p : Int) : Value := if p = 0 then .pointer none else .pointer (some ⟨nb p, 0, none⟩)
def ptrsOf (nb : Int → Nat) (l : List Int) : List Value := l.map fun i => .pointer (some ⟨nb i, 0, none⟩)
theorem ptrsOf_one (nb : Int → Nat) (l : List Int) : ∀ x ∈ ptrsOf nb l, x.oneCell' = true := by
  intro x hx
  unfold ptrsOf at hx
  obtain ⟨i, _, rfl⟩ := List.mem_map.1 hx
  rfl
theorem ptrsOf_length (nb : Int → Nat) (l : List Int) : (ptrsOf nb l).length = l.length := by unfold ptrsOf; simp
def nodeCells (nb : Int → Nat) (n : RN) (av kv : Value) : Array Value := #[.int .i64 n.id, .int .i64 n.key, .string n.tag, .string n.text, av, parPtr nb n.par, kv]
abbrev Roles := Nat → Option (Int × Nat)
structure PNode (ρ : Roles) (nb : Int → Nat) (w : World) (R : List RN) (n : RN) (av kv : Value) : Prop where
  blk : w.heap[nb n.id]? = some (.cells (nodeCells nb n av kv) 138 (0, 0))
  role : ρ (nb n.id) = some (n.id, 0)
  arow : w.ownsRow 0 72 2 av n.ats.length (attrCells n.ats)
  arole : ∀ b, av.ownBlock = some b → ρ b = some (n.id, 1)
  krow : w.ownsRow 0 112 1 kv (kidIds R n.id).length (ptrsOf nb (kidIds R n.id))
  krole : ∀ b, kv.ownBlock = some b → ρ b = some (n.id, 2)
  few : n.ats.length ≤ 5
  rise : Rises n.ats
  tag : n.tag.size ≤ maxLen
  text : n.text.size ≤ maxLen
  size : ∀ x, x ∈ n.ats → x.1.size ≤ maxLen ∧ x.2.size ≤ maxLen
def blkOf (nb : Int → Nat) (R : List RN) (i : Int) : Option Nat := if R.any (fun n => n.id == i) then some (nb i) else none
theorem blkOf_yes {nb : Int → Nat} {R : List RN} {n : RN} (h : n ∈ R) : blkOf nb R n.id = some (nb n.id) := by
  unfold blkOf
  rw [if_pos (List.any_eq_true.2 ⟨n, h, by simp⟩)]
theorem blkOf_no {nb : Int → Nat} {R : List RN} {i : Int} (h : ∀ n, n ∈ R → n.id ≠ i) : blkOf nb R i = none := by
  unfold blkOf
  rw [if_neg]
  intro e
  obtain ⟨n, hn, he⟩ := List.any_eq_true.1 e
  exact h n hn (by simpa using he)
structure Dom (ρ : Roles) (nb : Int → Nat) (mb : Nat) (rt : Option Nat) (w : World) (q : Nat) (R : List RN) (last : Int) : Prop where
  blk : w.heap[q]? = some (.cells #[ptrOpt rt, .map (some mb), .int .i64 last] 114 (0, 0))
  role : ρ q = some (0, 0)
  mrole : ρ mb = some (0, 1)
  map : MapAt w mb (blkOf nb R) R.length
  node : ∀ n, n ∈ R → ∃ av kv, PNode ρ nb w R n av kv
  low : ∀ b, (ρ b).isSome = true → b < w.heap.size
  few : R.length ≤ 800
theorem cell_of_blk {w : World} {b : Nat} {c : Array Value} {t : TypeId} (h : w.heap[b]? = some (.cells c t (0, 0))) (i : Nat) (v : Value) (hv : c[i]? = some v) : w.cell? ⟨b, i, none⟩ = some v := by
  simp only [World.cell?, h]
  simpa using hv
theorem frozen_of_blk {w : World} {b : Nat} {c : Array Value} {t : TypeId} (h : w.heap[b]? = some (.cells c t (0, 0))) (i : Nat) : w.frozen? ⟨b, i, none⟩ = false := by
  simp [World.frozen?, h]
theorem lt_of_blk {w : World} {b : Nat} {o : Obj} (h : w.heap[b]? = some o) : b < w.heap.size := (Array.getElem?_eq_some_iff.1 h).1
theorem set_blk {w : World} {b i : Nat} {c : Array Value} {t : TypeId} (h : w.heap[b]? = some (.cells c t (0, 0))) (v : Value) : (w.setCell ⟨b, i, none⟩ v).heap[b]? = some (.cells (c.set! i v) t (0, 0)) := by
  simp only [World.setCell, Array.getElem?_modify, if_true, h, Option.map_some]
  simp
theorem PNode.kept {ρ ρ' : Roles} {nb : Int → Nat} {w w' : World} {R R' : List RN} {n : RN} {av kv : Value} (h : PNode ρ nb w R n av kv) (hb : ∀ b j, ρ b = some (n.id, j) → w'.heap[b]? = w.heap[b]?) (hρ : ∀ b, (ρ b).isSome = true → ρ' b = ρ b) (hk : kidIds R' n.id = kidIds R n.id) : PNode ρ' nb w' R' n av kv where
  blk := (hb _ 0 h.role).trans h.blk
  role := (hρ _ (by rw [h.role]; rfl)).trans h.role
  arow := own_heap h.arow fun b e => hb b 1 (h.arole b e)
  arole := fun b e => (hρ b (by rw [h.arole b e]; rfl)).trans (h.arole b e)
  krow := by rw [hk]; exact own_heap h.krow fun b e => hb b 2 (h.krole b e)
  krole := fun b e => (hρ b (by rw [h.krole b e]; rfl)).trans (h.krole b e)
  few := h.few
  rise := h.rise
  tag := h.tag
  text := h.text
  size := h.size
theorem Dom.below {ρ : Roles} {nb : Int → Nat} {mb : Nat} {rt : Option Nat} {w w' : World} {q : Nat} {R : List RN} {last : Int} (h : Dom ρ nb mb rt w q R last) (hb : Below w.heap.size w w') : Dom ρ nb mb rt w' q R last where
  blk := (hb.block q (lt_of_blk h.blk)).trans h.blk
  role := h.role
  mrole := h.mrole
  map := h.map.heap (hb.block mb h.map.lt)
  node := fun n hn => by
    obtain ⟨av, kv, hp⟩ := h.node n hn
    exact ⟨av, kv, hp.kept (fun b j e => hb.block b (h.low b (by rw [e]; rfl))) (fun _ _ => rfl) rfl⟩
  low := fun b e => Nat.lt_of_lt_of_le (h.low b e) hb.size
  few := h.few
theorem Dom.touch {ρ : Roles} {nb : Int → Nat} {mb : Nat} {rt : Option Nat} {w w' : World} {q : Nat} {R : List RN} {last : Int} (h : Dom ρ nb mb rt w q R last) {S : Nat → Prop} (ht : Touch S w w') (hS : ∀ b, (ρ b).isSome = true → ¬ S b) : Dom ρ nb mb rt w' q R last where
  blk := (ht.block q (lt_of_blk h.blk) (hS q (by rw [h.role]; rfl))).trans h.blk
  role := h.role
  mrole := h.mrole
  map := h.map.heap (ht.block mb h.map.lt (hS mb (by rw [h.mrole]; rfl)))
  node := fun n hn => by
    obtain ⟨av, kv, hp⟩ := h.node n hn
    exact ⟨av, kv, hp.kept (fun b j e => ht.block b (h.low b (by rw [e]; rfl)) (hS b (by rw [e]; rfl))) (fun _ _ => rfl) rfl⟩
  low := fun b e => Nat.lt_of_lt_of_le (h.low b e) ht.size
  few := h.few
theorem PNode.plain {ρ : Roles} {nb : Int → Nat} {w : World} {R : List RN} {n : RN} {av kv : Value} (h : PNode ρ nb w R n av kv) : Plain w (nb n.id) := ⟨_, _, h.blk⟩
theorem PNode.lt {ρ : Roles} {nb : Int → Nat} {w : World} {R : List RN} {n : RN} {av kv : Value} (h : PNode ρ nb w R n av kv) : nb n.id < w.heap.size := lt_of_blk h.blk
theorem PNode.nb_inj {ρ : Roles} {nb : Int → Nat} {w : World} {R : List RN} {n m : RN} {av kv av' kv' : Value} (h : PNode ρ nb w R n av kv) (h' : PNode ρ nb w R m av' kv') (e : nb n.id = nb m.id) : n.id = m.id := by
  have h1 := h.role
  rw [e, h'.role] at h1
  simp at h1
  exact h1.symm
end Go.Proofs.YtobgcaemnpkbmaaGreat
namespace Go.Proofs.YtobgcaemnpkbmaaGreat
open Go.RowKit
theorem mem_one {R : List RN} (hI : Ids R) {m n : RN} (hm : m ∈ R) (hn : n ∈ R) (e : m.id = n.id) : m = n := by
  obtain ⟨i, hi, rfl⟩ := List.getElem_of_mem hm
  obtain ⟨j, hj, rfl⟩ := List.getElem_of_mem hn
  have := hI.inj i j hi hj e
  subst this
  rfl
theorem blkOf_same {nb : Int → Nat} {R R' : List RN} (h : ∀ i, (∃ n, n ∈ R' ∧ n.id = i) ↔ (∃ n, n ∈ R ∧ n.id = i)) : blkOf nb R' = blkOf nb R := by
  funext i
  unfold blkOf
  have : R'.any (fun n => n.id == i) = R.any (fun n => n.id == i) := by
    cases hx : R.any (fun n => n.id == i) with
    | true =>
      obtain ⟨n, hn, e⟩ := List.any_eq_true.1 hx
      obtain ⟨m, hm, e'⟩ := (h i).2 ⟨n, hn, by simpa using e⟩
      exact List.any_eq_true.2 ⟨m, hm, by simp [e']⟩
    | false =>
      cases hy : R'.any (fun n => n.id == i) with
      | false => rfl
      | true =>
        obtain ⟨n, hn, e⟩ := List.any_eq_true.1 hy
        obtain ⟨m, hm, e'⟩ := (h i).1 ⟨n, hn, by simpa using e⟩
        rw [List.any_eq_true.2 ⟨m, hm, by simp [e']⟩] at hx
        cases hx
  rw [this]
theorem ins_there {R : List RN} (hI : Ids R) {n : RN} {k : Nat} {bf : Int} (hk : k < R.length) (hb : bf = 0 ∨ ∃ i, i < R.length ∧ idAt R i = bf) (hn : n.id = R[k].id) :
    n ∈ insP R n k bf ∧ ∀ i, (∃ m, m ∈ insP R n k bf ∧ m.id = i) ↔ (∃ m, m ∈ R ∧ m.id = i) := by
  obtain ⟨h1, h2⟩ := insP_perm (n := n) hI hk hb
  refine ⟨h1.mem_iff.2 (by simp), fun i => ⟨?_, ?_⟩⟩
  · rintro ⟨m, hm, e⟩
    rcases insP_mem hI hk hb m hm with h | rfl
    · exact ⟨m, h, e⟩
    · exact ⟨R[k], List.getElem_mem hk, by rw [← hn]; exact e⟩
  · rintro ⟨m, hm, e⟩
    rcases List.mem_append.1 (h2.mem_iff.1 hm) with h | h
    · exact ⟨m, h1.mem_iff.2 (List.mem_append.2 (.inl h)), e⟩
    · have := List.mem_singleton.1 h
      subst this
      exact ⟨n, h1.mem_iff.2 (by simp), by rw [hn]; exact e⟩
def Wrote (ρ ρ' : Roles) (w w' : World) : Prop := Touch (fun b => (ρ b).isSome = true) w w' ∧ (∀ b, (ρ b).isSome = true → ρ' b = ρ b) ∧ ∀ b, (ρ' b).isSome = true → (ρ b).isSome = true ∨ w.heap.size ≤ b
theorem Dom.taken {ρ : Roles} {nb : Int → Nat} {mb : Nat} {rt : Option Nat} {w : World} {q : Nat} {R : List RN} {last : Int} (h : Dom ρ nb mb rt w q R last) (hI : Ids R) {k t : Nat} (hk : k < R.length) (ht : t < R.length) (hne : R[t].id ≠ R[k].id) (hp0 : R[k].par = 0) {av kv : Value} (hP : PNode ρ nb w R R[t] av kv)
    {bf : Int} (hb : bf = 0 ∨ ∃ i, i < R.length ∧ idAt R i = bf) {L : List Int} (hL : kidIds (insP R { R[k] with par := R[t].id } k bf) R[t].id = L) {w2 : World} {v' : Value} (hs : w.heap.size ≤ w2.heap.size) (ho : w2.os = w.os ∧ w2.tape = w.tape ∧ w2.output = w.output)
    (hblk : ∀ b, b < w.heap.size → some b ≠ kv.ownBlock → w2.heap[b]? = w.heap[b]?) (hrow : w2.ownsRow 0 112 1 v' L.length (ptrsOf nb L)) (hv : ∀ b, v'.ownBlock = some b → kv.ownBlock = some b ∨ w.heap.size ≤ b) :
    ∃ ρ', Wrote ρ ρ' w ((w2.setCell ⟨nb R[t].id, 6, none⟩ v').setCell ⟨nb R[k].id, 5, none⟩ (.pointer (some ⟨nb R[t].id, 0, none⟩))) ∧ Dom ρ' nb mb rt ((w2.setCell ⟨nb R[t].id, 6, none⟩ v').setCell ⟨nb R[k].id, 5, none⟩ (.pointer (some ⟨nb R[t].id, 0, none⟩))) q (insP R { R[k] with par := R[t].id } k bf) last := by
  obtain ⟨avk, kvk, hPk⟩ := h.node _ (List.getElem_mem hk)
  have hIds' := insP_ids (n := { R[k] with par := R[t].id }) hI hk hb rfl
  obtain ⟨hin, hsame⟩ := ins_there (n := { R[k] with par := R[t].id }) hI hk hb rfl
  have hlen := insP_length (n := { R[k] with par := R[t].id }) hI hk hb
  have hmem := insP_mem (n := { R[k] with par := R[t].id }) hI hk hb
  generalize hR' : insP R { R[k] with par := R[t].id } k bf = R' at *
  have hpk : (0 : Int) < R[k].id := hI.pos _ (List.getElem_mem hk)
  have hpt : (0 : Int) < R[t].id := hI.pos _ (List.getElem_mem ht)
  have hnn : nb R[t].id ≠ nb R[k].id := fun e => hne (hP.nb_inj hPk e)
  -- the heap then
  have hF : ∀ b, b ≠ nb R[t].id → b ≠ nb R[k].id → ((w2.setCell ⟨nb R[t].id, 6, none⟩ v').setCell ⟨nb R[k].id, 5, none⟩ (.pointer (some ⟨nb R[t].id, 0, none⟩))).heap[b]? = w2.heap[b]? := fun b h1 h2 =>
    (Below.heap_setCell _ _ _ _ h2).trans (Below.heap_setCell _ _ _ _ h1)
  have hold : ∀ b r, ρ b = some r → b ≠ nb R[t].id → b ≠ nb R[k].id → some b ≠ kv.ownBlock → ((w2.setCell ⟨nb R[t].id, 6, none⟩ v').setCell ⟨nb R[k].id, 5, none⟩ (.pointer (some ⟨nb R[t].id, 0, none⟩))).heap[b]? = w.heap[b]? := fun b r e h1 h2 h3 =>
    (hF b h1 h2).trans (hblk b (h.low b (by rw [e]; rfl)) h3)
  have hkvr : ∀ b r, ρ b = some r → r ≠ (R[t].id, 2) → some b ≠ kv.ownBlock := fun b r e hr h2 => by
    rw [hP.krole b h2.symm] at e
    exact hr (Option.some.inj e).symm
  have htr : ∀ b r, ρ b = some r → r ≠ (R[t].id, 0) → b ≠ nb R[t].id := fun b r e hr h2 => by
    subst h2
    rw [hP.role] at e
    exact hr (Option.some.inj e).symm
  have hkr : ∀ b r, ρ b = some r → r ≠ (R[k].id, 0) → b ≠ nb R[k].id := fun b r e hr h2 => by
    subst h2
    rw [hPk.role] at e
    exact hr (Option.some.inj e).symm
  have hvρ : ∀ b, v'.ownBlock = some b → (ρ b).isSome = true → ρ b = some (R[t].id, 2) := fun b e hsb => by
    rcases hv b e with e2 | e2
    · exact hP.krole b e2
    · have := h.low b hsb; omega
  have hρ : ∀ b, (ρ b).isSome = true → (if v'.ownBlock = some b then some (R[t].id, 2) else ρ b) = ρ b := fun b hsb => by
    by_cases e : v'.ownBlock = some b
    · rw [if_pos e, hvρ b e hsb]
    · rw [if_neg e]
  have hszF : ((w2.setCell ⟨nb R[t].id, 6, none⟩ v').setCell ⟨nb R[k].id, 5, none⟩ (.pointer (some ⟨nb R[t].id, 0, none⟩))).heap.size = w2.heap.size := by rw [size_setCell', size_setCell']
  refine ⟨fun b => if v'.ownBlock = some b then some (R[t].id, 2) else ρ b, ⟨⟨ho.1, ho.2.1, ho.2.2, by rw [hszF]; exact hs, fun b hb hn => ?_⟩, hρ, fun b hsb => ?_⟩, ⟨?_, ?_, ?_, ?_, fun m hm => ?_, fun b hsb => ?_, by rw [hlen]; exact h.few⟩⟩
  · refine (hF b (fun e => hn (by rw [e, hP.role]; rfl)) (fun e => hn (by rw [e, hPk.role]; rfl))).trans (hblk b hb (fun e => hn (by rw [hP.krole b e.symm]; rfl)))
  · by_cases e : v'.ownBlock = some b
    · rcases hv b e with e2 | e2
      · exact .inl (by rw [hP.krole b e2]; rfl)
      · exact .inr e2
    · replace hsb : (if v'.ownBlock = some b then some (R[t].id, 2) else ρ b).isSome = true := hsb
      rw [if_neg e] at hsb; exact .inl hsb
  · exact (hold q _ h.role (htr q _ h.role (fun e => by have := (Prod.mk.inj e).1; omega)) (hkr q _ h.role (fun e => by have := (Prod.mk.inj e).1; omega)) (hkvr q _ h.role (fun e => by have := (Prod.mk.inj e).1; omega))).trans h.blk
  · exact (hρ q (by rw [h.role]; rfl)).trans h.role
  · exact (hρ mb (by rw [h.mrole]; rfl)).trans h.mrole
  · rw [hlen, blkOf_same hsame]
    exact h.map.heap (hold mb _ h.mrole (htr mb _ h.mrole (fun e => by have := (Prod.mk.inj e).1; omega)) (hkr mb _ h.mrole (fun e => by have := (Prod.mk.inj e).1; omega)) (hkvr mb _ h.mrole (fun e => by have := (Prod.mk.inj e).1; omega)))
  · by_cases e1 : m.id = R[k].id
    · have em : m = { R[k] with par := R[t].id } := mem_one hIds' hm hin e1
      subst em
      have hkk : kidIds R' R[k].id = kidIds R R[k].id := by
        rw [← hR']
        exact ins_other hk (by rw [hp0]; omega) hne
      have hb0 : w2.heap[nb R[k].id]? = w.heap[nb R[k].id]? := hblk _ hPk.lt (hkvr _ _ hPk.role (fun e => by have := (Prod.mk.inj e).2; omega))
      have hb1 : (w2.setCell ⟨nb R[t].id, 6, none⟩ v').heap[nb R[k].id]? = some (.cells (nodeCells nb R[k] avk kvk) 138 (0, 0)) := (Below.heap_setCell _ _ _ _ (Ne.symm hnn)).trans (hb0.trans hPk.blk)
      have hb2 := set_blk (i := 5) hb1 (.pointer (some ⟨nb R[t].id, 0, none⟩))
      refine ⟨avk, kvk, ⟨?_, ?_, ?_, ?_, ?_, ?_, hPk.few, hPk.rise, hPk.tag, hPk.text, hPk.size⟩⟩
      · rw [hb2]
        show some (Obj.cells #[_, _, _, _, _, _, _] _ _) = some (Obj.cells #[_, _, _, _, _, parPtr nb R[t].id, _] _ _)
        unfold parPtr
        rw [if_neg (by omega)]
      · exact (hρ _ (by rw [hPk.role]; rfl)).trans hPk.role
      · exact own_heap hPk.arow fun b e => hold b _ (hPk.arole b e) (htr b _ (hPk.arole b e) (fun e => by have := (Prod.mk.inj e).2; omega)) (hkr b _ (hPk.arole b e) (fun e => by have := (Prod.mk.inj e).2; omega)) (hkvr b _ (hPk.arole b e) (fun e => by have := (Prod.mk.inj e).2; omega))
      · exact fun b e => (hρ b (by rw [hPk.arole b e]; rfl)).trans (hPk.arole b e)
      · show World.ownsRow _ _ _ _ kvk (kidIds R' R[k].id).length (ptrsOf nb (kidIds R' R[k].id))
        rw [hkk]
        exact own_heap hPk.krow fun b e => hold b _ (hPk.krole b e) (htr b _ (hPk.krole b e) (fun e => by have := (Prod.mk.inj e).2; omega)) (hkr b _ (hPk.krole b e) (fun e => by have := (Prod.mk.inj e).2; omega)) (hkvr b _ (hPk.krole b e) (fun e => hne (Prod.mk.inj e).1.symm))
      · exact fun b e => (hρ b (by rw [hPk.krole b e]; rfl)).trans (hPk.krole b e)
    · have hmR : m ∈ R := by
        rcases hmem m hm with h | h
        · exact h
        · subst h; exact absurd rfl e1
      by_cases e2 : m.id = R[t].id
      · have em : m = R[t] := mem_one hI hmR (List.getElem_mem ht) e2
        subst em
        have hb0 : w2.heap[nb R[t].id]? = some (.cells (nodeCells nb R[t] av kv) 138 (0, 0)) := (hblk _ hP.lt (hkvr _ _ hP.role (fun e => by have := (Prod.mk.inj e).2; omega))).trans hP.blk
        have hb1 := set_blk (i := 6) hb0 v'
        refine ⟨av, v', ⟨?_, ?_, ?_, ?_, ?_, ?_, hP.few, hP.rise, hP.tag, hP.text, hP.size⟩⟩
        · rw [Below.heap_setCell _ _ _ _ hnn, hb1]
          rfl
        · exact (hρ _ (by rw [hP.role]; rfl)).trans hP.role
        · exact own_heap hP.arow fun b e => hold b _ (hP.arole b e) (htr b _ (hP.arole b e) (fun e => by have := (Prod.mk.inj e).2; omega)) (hkr b _ (hP.arole b e) (fun e => by have := (Prod.mk.inj e).2; omega)) (hkvr b _ (hP.arole b e) (fun e => by have := (Prod.mk.inj e).2; omega))
        · exact fun b e => (hρ b (by rw [hP.arole b e]; rfl)).trans (hP.arole b e)
        · rw [hL]
          refine own_heap hrow fun b e => hF b (fun e2 => ?_) (fun e2 => ?_)
          · subst e2
            have := hvρ _ e (by rw [hP.role]; rfl)
            rw [hP.role] at this
            have := (Prod.mk.inj (Option.some.inj this)).2
            omega
          · subst e2
            have := hvρ _ e (by rw [hPk.role]; rfl)
            rw [hPk.role] at this
            have := (Prod.mk.inj (Option.some.inj this)).2
            omega
        · intro b e
          show (if v'.ownBlock = some b then some (R[t].id, 2) else ρ b) = _
          rw [if_pos e]
      · obtain ⟨avm, kvm, hPm⟩ := h.node m hmR
        refine ⟨avm, kvm, hPm.kept (fun b j e => hold b _ e (htr b _ e (fun x => e2 (Prod.mk.inj x).1)) (hkr b _ e (fun x => e1 (Prod.mk.inj x).1)) (hkvr b _ e (fun x => e2 (Prod.mk.inj x).1))) hρ ?_⟩
        rw [← hR']
        exact ins_other hk (by rw [hp0]; have := hI.pos m hmR; omega) (fun x => e2 x.symm)
  · rw [hszF]
    by_cases e : v'.ownBlock = some b
    · exact Nat.lt_of_lt_of_le (hrow.lt b e).2 (Nat.le_refl _)
    · replace hsb : (if v'.ownBlock = some b then some (R[t].id, 2) else ρ b).isSome = true := hsb
      rw [if_neg e] at hsb; exact Nat.lt_of_lt_of_le (h.low b hsb) hs
end Go.Proofs.YtobgcaemnpkbmaaGreat
