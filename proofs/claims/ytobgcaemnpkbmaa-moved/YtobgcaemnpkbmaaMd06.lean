/- Srt Fnd Rep -/
import Derived.Test.YtobgcaemnpkbmaaMd03
import Derived.Lib.Bytealg
import Derived.Test.YtobgcaemnpkbmaaMd02
import Derived.Lib.Slices
import Derived.Test.YtobgcaemnpkbmaaMd04
import Derived.Test.YtobgcaemnpkbmaaMd05
namespace Go.Proofs.Ytobgcaemnpkbmaa
open Go.RowKit
theorem less_irrefl : ∀ x : List UInt8, Op.bytesLess x x = false := by
  intro x
  induction x with
  | nil => rfl
  | cons a x ih => simp [Op.bytesLess, ih]
theorem less_trans : ∀ x y z : List UInt8, Op.bytesLess x y = true → Op.bytesLess y z = true → Op.bytesLess x z = true := by
  intro x
  induction x with
  | nil =>
    intro y z h1 h2
    cases z with
    | nil => cases y <;> simp [Op.bytesLess] at h2
    | cons c z => rfl
  | cons a x ih =>
    intro y z h1 h2
    cases y with
    | nil => simp [Op.bytesLess] at h1
    | cons b y =>
      cases z with
      | nil => simp [Op.bytesLess] at h2
      | cons c z =>
        simp only [Op.bytesLess, Bool.or_eq_true, decide_eq_true_eq, Bool.and_eq_true, beq_iff_eq] at h1 h2 ⊢
        rcases h1 with h1 | ⟨rfl, h1⟩
        · rcases h2 with h2 | ⟨rfl, h2⟩
          · left; exact UInt8.lt_trans h1 h2
          · left; exact h1
        · rcases h2 with h2 | ⟨rfl, h2⟩
          · left; exact h2
          · right; exact ⟨rfl, ih y z h1 h2⟩
theorem less_total : ∀ x y : List UInt8, Op.bytesLess x y = false → Op.bytesLess y x = false → x = y := by
  intro x
  induction x with
  | nil =>
    intro y h1 h2
    cases y with
    | nil => rfl
    | cons b y => simp [Op.bytesLess] at h1
  | cons a x ih =>
    intro y h1 h2
    cases y with
    | nil => simp [Op.bytesLess] at h2
    | cons b y =>
      simp only [Op.bytesLess, Bool.or_eq_false_iff, decide_eq_false_iff_not, Bool.and_eq_false_iff, beq_eq_false_iff_ne] at h1 h2
      have hab : a = b := by
        have h3 := h1.1
        have h4 := h2.1
        rw [UInt8.lt_iff_toNat_lt] at h3 h4
        exact UInt8.toNat_inj.1 (by omega)
      subst hab
      rw [ih y (h1.2.resolve_left (fun h => h rfl)) (h2.2.resolve_left (fun h => h rfl))]
theorem cmp_neg : ∀ x y : List UInt8, Lib.compareBytes x y < 0 ↔ Op.bytesLess x y = true := by
  intro x
  induction x with
  | nil => intro y; cases y <;> simp [Lib.compareBytes, Op.bytesLess]
  | cons a x ih =>
    intro y
    cases y with
    | nil => simp [Lib.compareBytes, Op.bytesLess]
    | cons b y =>
      simp only [Lib.compareBytes, Op.bytesLess, Bool.or_eq_true, decide_eq_true_eq, Bool.and_eq_true, beq_iff_eq]
      by_cases h1 : a < b
      · simp [h1]
      · by_cases h2 : b < a
        · have h3 : a ≠ b := fun e => by subst e; exact UInt8.lt_irrefl _ h2
          simp [h1, h2, h3]
        · have hab : a = b := by
            rw [UInt8.lt_iff_toNat_lt] at h1 h2
            exact UInt8.toNat_inj.1 (by omega)
          simp [hab, ih y]
theorem cmp_zero : ∀ x y : List UInt8, Lib.compareBytes x y = 0 ↔ x = y := by
  intro x
  induction x with
  | nil => intro y; cases y <;> simp [Lib.compareBytes]
  | cons a x ih =>
    intro y
    cases y with
    | nil => simp [Lib.compareBytes]
    | cons b y =>
      simp only [Lib.compareBytes, List.cons.injEq]
      by_cases h1 : a < b
      · have h3 : a ≠ b := fun e => by subst e; exact UInt8.lt_irrefl _ h1
        simp [h1, h3]
      · by_cases h2 : b < a
        · have h3 : a ≠ b := fun e => by subst e; exact UInt8.lt_irrefl _ h2
          simp [h1, h2, h3]
        · have hab : a = b := by
            rw [UInt8.lt_iff_toNat_lt] at h1 h2
            exact UInt8.toNat_inj.1 (by omega)
          simp [hab, ih y]
def lessB (a b : ByteArray) : Bool := Op.bytesLess a.toList b.toList
theorem sameB_iff {a b : ByteArray} : sameB a b = true ↔ a.toList = b.toList := by unfold sameB; simp
def Rises (l : List (ByteArray × ByteArray)) : Prop := l.Pairwise fun x y => lessB x.1 y.1 = true
def posP (l : List (ByteArray × ByteArray)) (nm : ByteArray) : Nat := (l.takeWhile fun x => lessB x.1 nm).length
theorem posP_le (l : List (ByteArray × ByteArray)) (nm : ByteArray) : posP l nm ≤ l.length := (List.takeWhile_sublist _).length_le
theorem posP_cons_lt {x : ByteArray × ByteArray} {l : List (ByteArray × ByteArray)} {nm : ByteArray} (h : lessB x.1 nm = true) : posP (x :: l) nm = posP l nm + 1 := by unfold posP; simp [h]
theorem posP_cons_ge {x : ByteArray × ByteArray} {l : List (ByteArray × ByteArray)} {nm : ByteArray} (h : lessB x.1 nm = false) : posP (x :: l) nm = 0 := by unfold posP; simp [h]
theorem posP_iff {l : List (ByteArray × ByteArray)} {nm : ByteArray} (hs : Rises l) : ∀ i, (hi : i < l.length) → (lessB l[i].1 nm = true ↔ i < posP l nm) := by
  induction l with
  | nil => intro i hi; exact absurd hi (Nat.not_lt_zero _)
  | cons x l ih =>
    intro i hi
    have hs' := List.pairwise_cons.1 hs
    cases hx : lessB x.1 nm with
    | true =>
      rw [posP_cons_lt hx]
      cases i with
      | zero => simp [hx]
      | succ i => rw [List.getElem_cons_succ, ih hs'.2 i (by simpa using hi)]; omega
    | false =>
      rw [posP_cons_ge hx]
      cases i with
      | zero => simp [hx]
      | succ i =>
        have hi' : i < l.length := by simpa using hi
        rw [List.getElem_cons_succ]
        refine ⟨fun h => ?_, fun h => absurd h (Nat.not_lt_zero _)⟩
        have h1 := hs'.1 l[i] (List.getElem_mem hi')
        have := less_trans _ _ _ h1 h
        unfold lessB at hx
        rw [hx] at this
        cases this
theorem posP_of {l : List (ByteArray × ByteArray)} {nm : ByteArray} {k : Nat} (hs : Rises l) (hk : k ≤ l.length) (h1 : ∀ i, (hi : i < l.length) → i < k → lessB l[i].1 nm = true) (h2 : ∀ i, (hi : i < l.length) → k ≤ i → lessB l[i].1 nm = false) : posP l nm = k := by
  have hp := posP_le l nm
  by_cases h : posP l nm < k
  · have := (posP_iff hs (nm := nm) (posP l nm) (by omega)).1 (h1 _ (by omega) h)
    omega
  · by_cases h' : k < posP l nm
    · have := (posP_iff hs (nm := nm) k (by omega)).2 h'
      rw [h2 k (by omega) (Nat.le_refl _)] at this
      cases this
    · omega
def hitP (l : List (ByteArray × ByteArray)) (nm : ByteArray) : Bool := decide (posP l nm < l.length) && sameB (attAt l (posP l nm)).1 nm
theorem rises_erase {l : List (ByteArray × ByteArray)} {nm : ByteArray} (h : Rises l) : Rises (unsetP l nm) := List.Pairwise.filter _ h
theorem same_less {a b c : ByteArray} (h : sameB a b = true) : lessB a c = lessB b c := by unfold lessB; rw [sameB_iff.1 h]
theorem less_same {a b c : ByteArray} (h : sameB b c = true) : lessB a b = lessB a c := by unfold lessB; rw [sameB_iff.1 h]
theorem same_not_less {a b : ByteArray} (h : sameB a b = true) : lessB a b = false := by rw [same_less h]; exact less_irrefl _
theorem unsetP_pos {l : List (ByteArray × ByteArray)} {nm : ByteArray} (hs : Rises l) : unsetP l nm = if hitP l nm then l.take (posP l nm) ++ l.drop (posP l nm + 1) else l := by
  induction l with
  | nil => rfl
  | cons x l ih =>
    have hs' := List.pairwise_cons.1 hs
    have hall : lessB x.1 nm = false → ∀ y, y ∈ l → sameB y.1 nm = false := fun hx y hy => by
      cases he : sameB y.1 nm with
      | false => rfl
      | true =>
        have := hs'.1 y hy
        rw [less_same he, hx] at this
        cases this
    have hu : unsetP (x :: l) nm = if sameB x.1 nm then unsetP l nm else x :: unsetP l nm := by
      unfold unsetP
      rw [List.filter_cons]
      cases sameB x.1 nm <;> rfl
    cases hx : lessB x.1 nm with
    | true =>
      have hne : sameB x.1 nm = false := by
        cases he : sameB x.1 nm with
        | false => rfl
        | true => rw [same_not_less he] at hx; cases hx
      have hh : hitP (x :: l) nm = hitP l nm := by
        unfold hitP
        rw [posP_cons_lt hx]
        simp [attAt]
      rw [hu, hne, hh, posP_cons_lt hx, ih hs'.2]
      cases hitP l nm <;> simp
    | false =>
      have hl : unsetP l nm = l := by
        unfold unsetP
        rw [List.filter_eq_self]
        intro y hy
        rw [hall hx y hy]; rfl
      rw [hu, hl]
      have hh : hitP (x :: l) nm = sameB x.1 nm := by
        unfold hitP
        rw [posP_cons_ge hx]
        simp [attAt]
      rw [hh, posP_cons_ge hx]
      cases sameB x.1 nm <;> simp
end Go.Proofs.Ytobgcaemnpkbmaa
namespace Go.Proofs.Ytobgcaemnpkbmaa
open Go.RowKit
set_option maxHeartbeats 1000000 in
set_option maxRecDepth 100000 in
theorem compareString_any (a b : ByteArray) (w : World) :
    Calls Try.prog 99 #[.string a, .string b] w fun e w' => e = .returned (.int .i64 (Lib.compareBytes a.data.toList b.data.toList)) ∧ w' = w := by
  go_enter Try.func99, Try.ntmps99
  go_wp2
  rw [run_callFunc_extern Try.func102 (by kernel_rfl) (by kernel_rfl) (by kernel_rfl) (e := Extern.BytealgCompare.compare) (by kernel_rfl), Lib.run_compareString]
  simp only [Result.andThen]
  rw [Oper.upon_value]
  go_wp2
  go_ret
  exact ⟨rfl, rfl⟩
theorem compare_any (a b : ByteArray) (w : World) :
    Calls Try.prog 89 #[.string a, .string b] w fun e w' => e = .returned (.int .i64 (Lib.compareBytes a.data.toList b.data.toList)) ∧ w' = w := by
  go_enter Try.func89, Try.ntmps89
  go_wp2_with (go_at_call 99; refine (compareString_any _ _ _).mono ?_; rintro e w' ⟨rfl, rfl⟩)
  go_ret
  exact ⟨rfl, rfl⟩
def cmpP (a b : ByteArray) : Int := Lib.compareBytes a.data.toList b.data.toList
theorem closure_any (a v b : ByteArray) (w : World) :
    Calls Try.prog 88 #[.agg #[.string a, .string v], .string b] w fun e w' => e = .returned (.int .i64 (cmpP a b)) ∧ Below w.heap.size w w' := by
  go_enter Try.func88, Try.ntmps88
  go_wp2_with (go_at_call 89; refine (compare_any _ _ _).mono ?_; rintro e w' ⟨rfl, rfl⟩)
  go_ret
  exact ⟨rfl, (Below.refl _ _).alloc (Nat.le_refl _) _⟩
theorem toList_data (a : ByteArray) : a.toList = a.data.toList := by
  exact Lib.toList_data a
theorem cmpP_neg (a b : ByteArray) : decide (cmpP a b < 0) = lessB a b := by
  unfold cmpP lessB
  rw [toList_data, toList_data]
  cases h : Op.bytesLess a.data.toList b.data.toList with
  | true => exact decide_eq_true ((cmp_neg _ _).2 h)
  | false => exact decide_eq_false (fun e => by rw [(cmp_neg _ _).1 e] at h; cases h)
theorem cmpP_zero (a b : ByteArray) : decide (cmpP a b = 0) = sameB a b := by
  unfold cmpP sameB
  rw [toList_data, toList_data]
  by_cases h : a.data.toList = b.data.toList
  · rw [decide_eq_true ((cmp_zero _ _).2 h), h, beq_self_eq_true]
  · rw [decide_eq_false (fun e => h ((cmp_zero _ _).1 e))]
    exact (beq_eq_false_iff_ne.2 h).symm
set_option maxHeartbeats 1000000 in
set_option maxRecDepth 100000 in
theorem search_any (ao : Option Addr) (n c : Nat) (l : List (ByteArray × ByteArray)) (nm : ByteArray) (w : World) (hn : n = l.length) (hfew : n ≤ 5) (hs : Rises l) (hat : AttrsAt w ao n (nmOf l) (vlOf l)) :
    Calls Try.prog 87 #[.slice ao n c, .string nm, .func (.func 88) #[] #[]] w fun e w' => e = .returned (.tuple #[.int .i64 (posP l nm), .bool (hitP l nm)]) ∧ Below w.heap.size w w' := by
  have HN := hide hn
  have HS := hide hs
  have HA := hide hat
  clear hn hs hat
  go_enter Try.func87, Try.ntmps87
  go_wp2_with fail
  go_loopw [9, 10, 11] (fun i j _ wr => ∃ a b : Nat, i = .int .i64 a ∧ j = .int .i64 b ∧ a ≤ b ∧ b ≤ n ∧ Hid (∀ t, (ht : t < l.length) → t < a → lessB l[t].1 nm = true) ∧ Hid (∀ t, (ht : t < l.length) → b ≤ t → lessB l[t].1 nm = false) ∧ Hid (Below w.heap.size w wr)) (fun i j _ _ => (intOf j).toNat - (intOf i).toNat)
  case atStart => exact ⟨0, n, rfl, rfl, Nat.zero_le _, Nat.le_refl _, hide (fun _ _ h => absurd h (Nat.not_lt_zero _)), hide (fun t ht h => by have := HN.out; omega), hide (Below.refl _ _)⟩
  case round =>
    obtain ⟨a, b, rfl, rfl, hab, hbn, hlo, hhi, hb⟩ := hrel
    have hnl1 : n ≤ l.length := by have := HN.out; omega
    have hnl2 : l.length ≤ n := by have := HN.out; omega
    by_cases hlt : a < b
    · have hml : (a + b) / 2 < l.length := by omega
      obtain ⟨g, o, hao, hgw, c0, c1, _, _⟩ := HA.out ((a + b) / 2) (by omega)
      subst hao
      have d0 : wr.cell? ⟨g, o + (a + b) / 2 * 2, none⟩ = some (.string l[(a + b) / 2].1) := by rw [hb.out.cell (p := ⟨g, o + (a + b) / 2 * 2, none⟩) hgw, c0]; unfold nmOf; rw [List.getD_eq_getElem?_getD, List.getElem?_eq_getElem hml]; rfl
      have d1 : wr.cell? ⟨g, o + (a + b) / 2 * 2 + 1, none⟩ = some (.string l[(a + b) / 2].2) := by rw [hb.out.cell (p := ⟨g, o + (a + b) / 2 * 2 + 1, none⟩) hgw, c1]; unfold vlOf; rw [List.getD_eq_getElem?_getD, List.getElem?_eq_getElem hml]; rfl
      have HC : Hid (∀ w, Calls Try.prog 88 #[.agg #[.string l[(a + b) / 2].1, .string l[(a + b) / 2].2], .string nm] w fun e w' => e = .returned (.int .i64 (cmpP l[(a + b) / 2].1 nm)) ∧ Below w.heap.size w w') := hide (fun w => closure_any _ _ _ w)
      have hrl := cmpP_neg l[(a + b) / 2].1 nm
      have HLs : Hid (∀ t, (ht : t < l.length) → (lessB l[(a + b) / 2].1 nm = true → t ≤ (a + b) / 2 → lessB l[t].1 nm = true) ∧ (lessB l[(a + b) / 2].1 nm = false → (a + b) / 2 ≤ t → lessB l[t].1 nm = false)) := by
        refine hide fun t ht => ⟨fun h hle => ?_, fun h hle => ?_⟩
        · exact (posP_iff (nm := nm) HS.out t ht).2 (by have := (posP_iff (nm := nm) HS.out _ hml).1 h; omega)
        · cases hx : lessB l[t].1 nm with
          | false => rfl
          | true =>
            have := (posP_iff (nm := nm) HS.out _ hml).2 (by have := (posP_iff (nm := nm) HS.out t ht).1 hx; omega)
            rw [h] at this
            cases this
      generalize hA1 : l[(a + b) / 2].1 = A1 at *
      generalize hA2 : l[(a + b) / 2].2 = A2 at *
      generalize hr : cmpP A1 nm = r at *
      have HR := hide hrl
      clear c0 c1 hr hrl hA1 hA2
      by_cases hneg : r < 0
      · have hl : lessB A1 nm = true := by rw [← HR.out]; exact decide_eq_true hneg
        have HL := hide hl
        clear hl
        go_wp2_with (first | (go_at_call 88; refine (unhide HC _).mono ?_; rintro e w1 ⟨rfl, hb1⟩; have HB1 := hide hb1; clear hb1))
        go_roundw
        case rel =>
          exact ⟨(a + b) / 2 + 1, b, by go_num, rfl, by omega, hbn, hide (fun t ht h => (HLs.out t ht).1 HL.out (by omega)), hhi, hide (hb.out.trans (HB1.out.mono hb.out.size))⟩
        case measure => simp [intOf]; omega
      · have hl : lessB A1 nm = false := by rw [← HR.out]; exact decide_eq_false hneg
        have HL := hide hl
        clear hl
        go_wp2_with (first | (go_at_call 88; refine (unhide HC _).mono ?_; rintro e w1 ⟨rfl, hb1⟩; have HB1 := hide hb1; clear hb1))
        go_roundw
        case rel => exact ⟨a, (a + b) / 2, rfl, by go_num, by omega, by omega, hlo, hide (fun t ht h => (HLs.out t ht).2 HL.out h), hide (hb.out.trans (HB1.out.mono hb.out.size))⟩
        case measure => simp [intOf]; omega
    · have hba : b = a := by omega
      subst hba
      have HPos : Hid (posP l nm = b) := hide (posP_of HS.out (by omega) hlo.out hhi.out)
      by_cases hend : b < n
      · have hml : b < l.length := by omega
        obtain ⟨g, o, hao, hgw, c0, c1, _, _⟩ := HA.out b (by omega)
        subst hao
        have d0 : wr.cell? ⟨g, o + b * 2, none⟩ = some (.string l[b].1) := by rw [hb.out.cell (p := ⟨g, o + b * 2, none⟩) hgw, c0]; unfold nmOf; rw [List.getD_eq_getElem?_getD, List.getElem?_eq_getElem hml]; rfl
        have d1 : wr.cell? ⟨g, o + b * 2 + 1, none⟩ = some (.string l[b].2) := by rw [hb.out.cell (p := ⟨g, o + b * 2 + 1, none⟩) hgw, c1]; unfold vlOf; rw [List.getD_eq_getElem?_getD, List.getElem?_eq_getElem hml]; rfl
        have HC : Hid (∀ w, Calls Try.prog 88 #[.agg #[.string l[b].1, .string l[b].2], .string nm] w fun e w' => e = .returned (.int .i64 (cmpP l[b].1 nm)) ∧ Below w.heap.size w w') := hide (fun w => closure_any _ _ _ w)
        have HH : Hid (hitP l nm = decide (cmpP l[b].1 nm = 0)) := by
          refine hide ?_
          unfold hitP
          rw [HPos.out, cmpP_zero, decide_eq_true hml, Bool.true_and, attAt_lt hml]
        generalize hA1 : l[b].1 = A1 at *
        generalize hA2 : l[b].2 = A2 at *
        generalize hr : cmpP A1 nm = r at *
        clear c0 c1 hr hA1 hA2
        have hi1 : (b : Int) < (n : Int) := by omega
        by_cases hz : r = 0
        · have HH1 : Hid (hitP l nm = true) := by rw [HH.out, decide_eq_true hz]; exact hide rfl
          go_wp2_with (first | (go_at_call 88; refine (unhide HC _).mono ?_; rintro e w1 ⟨rfl, hb1⟩; have HB1 := hide hb1; clear hb1))
          go_ret2
          refine ⟨?_, hb.out.trans (HB1.out.mono hb.out.size)⟩
          rw [HPos.out, HH1.out]
          first | rfl | simp [hz]
        · have HH1 : Hid (hitP l nm = false) := by rw [HH.out, decide_eq_false hz]; exact hide rfl
          go_wp2_with (first | (go_at_call 88; refine (unhide HC _).mono ?_; rintro e w1 ⟨rfl, hb1⟩; have HB1 := hide hb1; clear hb1))
          go_ret2
          refine ⟨?_, hb.out.trans (HB1.out.mono hb.out.size)⟩
          rw [HPos.out, HH1.out]
          first | rfl | simp [hz]
      · have HH1 : Hid (hitP l nm = false) := by
          refine hide ?_
          unfold hitP
          rw [HPos.out, decide_eq_false (by omega)]
          rfl
        have hi1 : ¬ (b : Int) < (n : Int) := by omega
        go_wp2_with fail
        go_ret2
        refine ⟨?_, hb.out⟩
        rw [HPos.out, HH1.out]
        first | rfl | simp
end Go.Proofs.Ytobgcaemnpkbmaa
namespace Go.Proofs.Ytobgcaemnpkbmaa
open Go.RowKit
def parPtr (nb : Int → Nat) (p : Int) : Value := if p = 0 then .pointer none else .pointer (some ⟨nb p, 0, none⟩)
def ptrsOf (nb : Int → Nat) (l : List Int) : List Value := l.map fun i => .pointer (some ⟨nb i, 0, none⟩)
theorem ptrsOf_one (nb : Int → Nat) (l : List Int) : ∀ x ∈ ptrsOf nb l, x.oneCell' = true := by
  intro x hx
  unfold ptrsOf at hx
  obtain ⟨i, _, rfl⟩ := List.mem_map.1 hx
  rfl
theorem ptrsOf_length (nb : Int → Nat) (l : List Int) : (ptrsOf nb l).length = l.length := by unfold ptrsOf; simp
def nodeCells (nb : Int → Nat) (n : RN) (av kv : Value) : Array Value := #[.int .i64 n.id, .int .i64 n.key, .string n.tag, .string n.text, av, parPtr nb n.par, kv]
abbrev Roles := Nat → Option (Int × Nat)
structure PNode (ρ : Roles) (nb : Int → Nat) (w : World) (R : List RN) (n : RN) (av kv : Value) : Prop where
  blk : w.heap[nb n.id]? = some (.cells (nodeCells nb n av kv) 79 (0, 0))
  role : ρ (nb n.id) = some (n.id, 0)
  arow : w.ownsRow 0 58 2 av n.ats.length (attrCells n.ats)
  arole : ∀ b, av.ownBlock = some b → ρ b = some (n.id, 1)
  krow : w.ownsRow 0 69 1 kv (kidIds R n.id).length (ptrsOf nb (kidIds R n.id))
  krole : ∀ b, kv.ownBlock = some b → ρ b = some (n.id, 2)
  few : n.ats.length ≤ 5
  rise : Rises n.ats
  tag : n.tag.size ≤ maxLen
  text : n.text.size ≤ maxLen
  size : ∀ x, x ∈ n.ats → x.1.size ≤ maxLen ∧ x.2.size ≤ maxLen
def blkOf (nb : Int → Nat) (R : List RN) (i : Int) : Option Nat := if R.any (fun n => n.id == i) then some (nb i) else none
theorem blkOf_yes {nb : Int → Nat} {R : List RN} {n : RN} (h : n ∈ R) : blkOf nb R n.id = some (nb n.id) := by
  unfold blkOf
  rw [if_pos (List.any_eq_true.2 ⟨n, h, by simp⟩)]
theorem blkOf_no {nb : Int → Nat} {R : List RN} {i : Int} (h : ∀ n, n ∈ R → n.id ≠ i) : blkOf nb R i = none := by
  unfold blkOf
  rw [if_neg]
  intro e
  obtain ⟨n, hn, he⟩ := List.any_eq_true.1 e
  exact h n hn (by simpa using he)
structure Dom (ρ : Roles) (nb : Int → Nat) (mb : Nat) (rt : Option Nat) (w : World) (q : Nat) (R : List RN) (last : Int) : Prop where
  blk : w.heap[q]? = some (.cells #[ptrOpt rt, .map (some mb), .int .i64 last] 71 (0, 0))
  role : ρ q = some (0, 0)
  mrole : ρ mb = some (0, 1)
  map : MapAt w mb (blkOf nb R) R.length
  node : ∀ n, n ∈ R → ∃ av kv, PNode ρ nb w R n av kv
  low : ∀ b, (ρ b).isSome = true → b < w.heap.size
  few : R.length ≤ 800
theorem cell_of_blk {w : World} {b : Nat} {c : Array Value} {t : TypeId} (h : w.heap[b]? = some (.cells c t (0, 0))) (i : Nat) (v : Value) (hv : c[i]? = some v) : w.cell? ⟨b, i, none⟩ = some v := by
  simp only [World.cell?, h]
  simpa using hv
theorem frozen_of_blk {w : World} {b : Nat} {c : Array Value} {t : TypeId} (h : w.heap[b]? = some (.cells c t (0, 0))) (i : Nat) : w.frozen? ⟨b, i, none⟩ = false := by
  simp [World.frozen?, h]
theorem lt_of_blk {w : World} {b : Nat} {o : Obj} (h : w.heap[b]? = some o) : b < w.heap.size := (Array.getElem?_eq_some_iff.1 h).1
theorem set_blk {w : World} {b i : Nat} {c : Array Value} {t : TypeId} (h : w.heap[b]? = some (.cells c t (0, 0))) (v : Value) : (w.setCell ⟨b, i, none⟩ v).heap[b]? = some (.cells (c.set! i v) t (0, 0)) := by
  simp only [World.setCell, Array.getElem?_modify, if_true, h, Option.map_some]
  simp
theorem PNode.kept {ρ ρ' : Roles} {nb : Int → Nat} {w w' : World} {R R' : List RN} {n : RN} {av kv : Value} (h : PNode ρ nb w R n av kv) (hb : ∀ b j, ρ b = some (n.id, j) → w'.heap[b]? = w.heap[b]?) (hρ : ∀ b, (ρ b).isSome = true → ρ' b = ρ b) (hk : kidIds R' n.id = kidIds R n.id) : PNode ρ' nb w' R' n av kv where
  blk := (hb _ 0 h.role).trans h.blk
  role := (hρ _ (by rw [h.role]; rfl)).trans h.role
  arow := own_heap h.arow fun b e => hb b 1 (h.arole b e)
  arole := fun b e => (hρ b (by rw [h.arole b e]; rfl)).trans (h.arole b e)
  krow := by rw [hk]; exact own_heap h.krow fun b e => hb b 2 (h.krole b e)
  krole := fun b e => (hρ b (by rw [h.krole b e]; rfl)).trans (h.krole b e)
  few := h.few
  rise := h.rise
  tag := h.tag
  text := h.text
  size := h.size
theorem Dom.below {ρ : Roles} {nb : Int → Nat} {mb : Nat} {rt : Option Nat} {w w' : World} {q : Nat} {R : List RN} {last : Int} (h : Dom ρ nb mb rt w q R last) (hb : Below w.heap.size w w') : Dom ρ nb mb rt w' q R last where
  blk := (hb.block q (lt_of_blk h.blk)).trans h.blk
  role := h.role
  mrole := h.mrole
  map := h.map.heap (hb.block mb h.map.lt)
  node := fun n hn => by
    obtain ⟨av, kv, hp⟩ := h.node n hn
    exact ⟨av, kv, hp.kept (fun b j e => hb.block b (h.low b (by rw [e]; rfl))) (fun _ _ => rfl) rfl⟩
  low := fun b e => Nat.lt_of_lt_of_le (h.low b e) hb.size
  few := h.few
theorem Dom.touch {ρ : Roles} {nb : Int → Nat} {mb : Nat} {rt : Option Nat} {w w' : World} {q : Nat} {R : List RN} {last : Int} (h : Dom ρ nb mb rt w q R last) {S : Nat → Prop} (ht : Touch S w w') (hS : ∀ b, (ρ b).isSome = true → ¬ S b) : Dom ρ nb mb rt w' q R last where
  blk := (ht.block q (lt_of_blk h.blk) (hS q (by rw [h.role]; rfl))).trans h.blk
  role := h.role
  mrole := h.mrole
  map := h.map.heap (ht.block mb h.map.lt (hS mb (by rw [h.mrole]; rfl)))
  node := fun n hn => by
    obtain ⟨av, kv, hp⟩ := h.node n hn
    exact ⟨av, kv, hp.kept (fun b j e => ht.block b (h.low b (by rw [e]; rfl)) (hS b (by rw [e]; rfl))) (fun _ _ => rfl) rfl⟩
  low := fun b e => Nat.lt_of_lt_of_le (h.low b e) ht.size
  few := h.few
theorem PNode.plain {ρ : Roles} {nb : Int → Nat} {w : World} {R : List RN} {n : RN} {av kv : Value} (h : PNode ρ nb w R n av kv) : Plain w (nb n.id) := ⟨_, _, h.blk⟩
theorem PNode.lt {ρ : Roles} {nb : Int → Nat} {w : World} {R : List RN} {n : RN} {av kv : Value} (h : PNode ρ nb w R n av kv) : nb n.id < w.heap.size := lt_of_blk h.blk
theorem PNode.nb_inj {ρ : Roles} {nb : Int → Nat} {w : World} {R : List RN} {n m : RN} {av kv av' kv' : Value} (h : PNode ρ nb w R n av kv) (h' : PNode ρ nb w R m av' kv') (e : nb n.id = nb m.id) : n.id = m.id := by
  have h1 := h.role
  rw [e, h'.role] at h1
  simp at h1
  exact h1.symm
end Go.Proofs.Ytobgcaemnpkbmaa
