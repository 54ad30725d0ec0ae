/- May Chk Single Single2 Parent Tree Ref Mem Cln Lix Doc -/
import Derived.Test.YtobgcaemnpkbmaaMd01
import Derived.Deep.OwnRows
import Derived.Laws.CopyRow
import Derived.Lib.Strings
import Derived.Lib.Walk
import Derived.Lib.BufferWrite
import Derived.Lib.UnsafeStr
import Derived.Lib.Hide
import Derived.Laws.MakeOwn
import Derived.WalkKit
import Derived.LaidEqlPtr
import Derived.Laws.OwnMore
import Derived.Maps.AppendAt
namespace Go.Proofs.Ytobgcaemnpkbmaa
open Go.RowKit
structure Ext (w : World) where
  to : World
  below : Below w.heap.size w to
theorem wp_region_ext {P : Program} {id : Nat} {Q : Exit → Act → World → Prop} {a : Act} {w : World} {l : List Oper} (hm : P.follows .mixedOrders = true) (hB : Region.lexB .any l.toArray = true)
    (h : wpQuiet P l.toArray (fun w' => ∃ g : Ext w, w' = g.to) (fun a' => ∀ w', (∃ g : Ext w, w' = g.to) → Q .normal a' w') l a) : (Code.region id l.toArray true).wp P Q a w :=
  wp_region_quiet (C := fun w' => ∃ g : Ext w, w' = g.to) hm hB ⟨⟨w.drew, (Below.refl _ _).drew⟩, rfl⟩ (by simpa using h)
theorem ext_of {P : Program} {f : FuncId} {args : Array Value} {w : World} {g : Ext w} {v : Value}
    (h : Calls P f args g.to fun e w' => e = .returned v ∧ Below g.to.heap.size g.to w') : Calls P f args g.to fun e w'' => e = .returned v ∧ ∃ g' : Ext w, w'' = g'.to :=
  h.mono fun _ w' ⟨he, hb⟩ => ⟨he, ⟨⟨w', g.below.trans (hb.mono g.below.size)⟩, rfl⟩⟩
theorem ext_of_same {P : Program} {f : FuncId} {args : Array Value} {w : World} {g : Ext w} {v : Value}
    (h : Calls P f args g.to fun e w' => e = .returned v ∧ w' = g.to) : Calls P f args g.to fun e w'' => e = .returned v ∧ ∃ g' : Ext w, w'' = g'.to :=
  h.mono fun _ _ ⟨he, hb⟩ => ⟨he, ⟨g, hb⟩⟩
theorem isElement_is (n : Nod) (r : Bool) (hr : elB n = r) (w : World) (h : n.Ok w) :
    Calls Try.prog 42 #[.agg #[.int .i64 n.d, .string n.t, .int .i64 n.k, .slice n.ao n.an n.ac, .string n.x]] w fun e w' => e = .returned (.bool r) ∧ Below w.heap.size w w' := by
  subst hr; exact isElement_any n w h
theorem isTextNode_is (n : Nod) (r : Bool) (hr : txB n = r) (w : World) (h : n.Ok w) :
    Calls Try.prog 44 #[.agg #[.int .i64 n.d, .string n.t, .int .i64 n.k, .slice n.ao n.an n.ac, .string n.x]] w fun e w' => e = .returned (.bool r) ∧ Below w.heap.size w w' := by
  subst hr; exact isTextNode_any n w h
theorem depthFits_is (a d : Int) (r : Bool) (hr : depthB a d = r) (w : World) (h0 : 0 ≤ a) (h1 : a ≤ 11) :
    Calls Try.prog 43 #[.int .i64 a, .int .i64 d] w fun e w' => e = .returned (.bool r) ∧ w' = w := by
  subst hr; exact depthFits_any a d w h0 h1
def mayB (L : Nat → Nod) (i : Nat) : Bool :=
  if i = 0 then decide ((L 0).d = 0) && elB (L 0) else depthB (L (i - 1)).d (L i).d && (elB (L i) || txB (L i)) && goBack L i i
set_option maxHeartbeats 400000 in
theorem mayBe_zero (b o n c : Nat) (L : Nat → Nod) (w : World) (_hn : n ≤ maxLen) (hi : 0 < n) (h : NodesAt w b o n L) :
    Calls Try.prog 33 #[.slice (some ⟨b, o, none⟩) n c, .int .i64 0] w fun e w' => e = .returned (.bool (mayB L 0)) ∧ Below w.heap.size w w' := by
  obtain ⟨c0, c1, c2, c3, c4, hok⟩ := h.node 0 hi
  simp only [Nat.zero_mul, Nat.add_zero] at c0 c1 c2 c3 c4
  have HO := hide hok
  clear h hok
  by_cases hd : (L 0).d = 0
  · have HX : Hid (mayB L 0 = elB (L 0)) := hide (by unfold mayB; rw [if_pos rfl, decide_eq_true hd]; rfl)
    have db : ((L 0).d == 0) = true := by simp [hd]
    clear hd
    go_enter Try.func33, Try.ntmps33
    go_wp2_with (go_at_call 42; refine (isElement_is (L 0) _ rfl _ (unhide HO)).mono ?_; rintro e w' ⟨rfl, hb2⟩)
    go_ret
    exact ⟨ret_bool HX.out.symm, hb2⟩
  · have HX : Hid (mayB L 0 = false) := hide (by unfold mayB; rw [if_pos rfl, decide_eq_false hd]; rfl)
    have db : ((L 0).d == 0) = false := by simp [hd]
    clear hd
    go_enter Try.func33, Try.ntmps33
    go_wp2
    go_ret
    exact ⟨ret_bool HX.out.symm, Below.refl _ _⟩
set_option maxHeartbeats 400000 in
theorem mayBe_next (b o n c : Nat) (L : Nat → Nod) (i : Nat) (w : World) (hn : n ≤ maxLen) (hi0 : 0 < i) (hi : i < n) (h : NodesAt w b o n L) (hd0 : 0 ≤ (L (i - 1)).d) (hd1 : (L (i - 1)).d ≤ 11) :
    Calls Try.prog 33 #[.slice (some ⟨b, o, none⟩) n c, .int .i64 i] w fun e w' => e = .returned (.bool (mayB L i)) ∧ Below w.heap.size w w' := by
  have HN := hide hn
  unfold maxLen at hn
  have H : Hid (∀ g : Ext w, NodesAt g.to b o n L) := hide (fun g => h.below g.below)
  have c0 : ∀ g : Ext w, g.to.cell? ⟨b, o + i * 5, none⟩ = some (.int .i64 (L i).d) := fun g => ((unhide H g).node i hi).c0
  have c1 : ∀ g : Ext w, g.to.cell? ⟨b, o + i * 5 + 1, none⟩ = some (.string (L i).t) := fun g => ((unhide H g).node i hi).c1
  have c2 : ∀ g : Ext w, g.to.cell? ⟨b, o + i * 5 + 2, none⟩ = some (.int .i64 (L i).k) := fun g => ((unhide H g).node i hi).c2
  have c3 : ∀ g : Ext w, g.to.cell? ⟨b, o + i * 5 + 3, none⟩ = some (.slice (L i).ao (L i).an (L i).ac) := fun g => ((unhide H g).node i hi).c3
  have c4 : ∀ g : Ext w, g.to.cell? ⟨b, o + i * 5 + 4, none⟩ = some (.string (L i).x) := fun g => ((unhide H g).node i hi).c4
  have a0 : ∀ g : Ext w, g.to.cell? ⟨b, o + (i - 1) * 5, none⟩ = some (.int .i64 (L (i - 1)).d) := fun g => ((unhide H g).node (i - 1) (by omega)).c0
  clear h
  have ib : ((i : Int) == 0) = false := by simp; omega
  have hne : Nonempty (Ext w) := ⟨⟨w, Below.refl _ _⟩⟩
  cases hD : depthB (L (i - 1)).d (L i).d with
  | false =>
    have HX : Hid (mayB L i = false) := hide (by unfold mayB; rw [if_neg (by omega), hD]; rfl)
    have HD := hide hD
    clear hD
    go_enter Try.func33, Try.ntmps33
    go_wp2
    refine wp_region_ext (by kernel_rfl) (by kernel_rfl) ?_
    repeat (go_big_quiet_step ((go_at_call 43; exact ext_of_same (depthFits_is _ _ _ (unhide HD) _ hd0 hd1))))
    refine wpQuiet_nil ?_
    intro _ hw'
    obtain ⟨g, hw''⟩ := hw'
    subst hw''
    go_wp2
    go_ret
    exact ⟨ret_bool HX.out.symm, g.below⟩
  | true =>
    cases hE : elB (L i) with
    | true =>
      have HX : Hid (mayB L i = goBack L i i) := hide (by unfold mayB; rw [if_neg (by omega), hD, hE]; simp)
      have HD := hide hD
      have HE := hide hE
      clear hD hE
      go_enter Try.func33, Try.ntmps33
      go_wp2
      refine wp_region_ext (by kernel_rfl) (by kernel_rfl) ?_
      repeat (go_big_quiet_step (first | (go_at_call 43; exact ext_of_same (depthFits_is _ _ _ (unhide HD) _ hd0 hd1)) | (go_at_call 42; exact ext_of (isElement_is (L i) _ (unhide HE) _ ((unhide H _).node i hi).ok)) | (go_at_call 45; exact ext_of (placeFits_any b o n c L i _ (unhide HN) hi (unhide H _)))))
      refine wpQuiet_nil ?_
      intro _ hw'
      obtain ⟨g, hw''⟩ := hw'
      subst hw''
      go_wp2
      go_ret
      exact ⟨ret_bool HX.out.symm, g.below⟩
    | false =>
      cases hT : txB (L i) with
      | true =>
        have HX : Hid (mayB L i = goBack L i i) := hide (by unfold mayB; rw [if_neg (by omega), hD, hE, hT]; simp)
        have HD := hide hD
        have HE := hide hE
        have HT := hide hT
        clear hD hE hT
        go_enter Try.func33, Try.ntmps33
        go_wp2
        refine wp_region_ext (by kernel_rfl) (by kernel_rfl) ?_
        repeat (go_big_quiet_step (first | (go_at_call 43; exact ext_of_same (depthFits_is _ _ _ (unhide HD) _ hd0 hd1)) | (go_at_call 42; exact ext_of (isElement_is (L i) _ (unhide HE) _ ((unhide H _).node i hi).ok)) | (go_at_call 44; exact ext_of (isTextNode_is (L i) _ (unhide HT) _ ((unhide H _).node i hi).ok)) | (go_at_call 45; exact ext_of (placeFits_any b o n c L i _ (unhide HN) hi (unhide H _)))))
        refine wpQuiet_nil ?_
        intro _ hw'
        obtain ⟨g, hw''⟩ := hw'
        subst hw''
        go_wp2
        go_ret
        exact ⟨ret_bool HX.out.symm, g.below⟩
      | false =>
        have HX : Hid (mayB L i = false) := hide (by unfold mayB; rw [if_neg (by omega), hE, hT]; simp)
        have HD := hide hD
        have HE := hide hE
        have HT := hide hT
        clear hD hE hT
        go_enter Try.func33, Try.ntmps33
        go_wp2
        refine wp_region_ext (by kernel_rfl) (by kernel_rfl) ?_
        repeat (go_big_quiet_step (first | (go_at_call 43; exact ext_of_same (depthFits_is _ _ _ (unhide HD) _ hd0 hd1)) | (go_at_call 42; exact ext_of (isElement_is (L i) _ (unhide HE) _ ((unhide H _).node i hi).ok)) | (go_at_call 44; exact ext_of (isTextNode_is (L i) _ (unhide HT) _ ((unhide H _).node i hi).ok))))
        refine wpQuiet_nil ?_
        intro _ hw'
        obtain ⟨g, hw''⟩ := hw'
        subst hw''
        go_wp2
        go_ret
        exact ⟨ret_bool HX.out.symm, g.below⟩
end Go.Proofs.Ytobgcaemnpkbmaa
namespace Go.Proofs.Ytobgcaemnpkbmaa
open Go.RowKit
def search (ok : Nat → Bool) (n : Nat) : Int × Int := match (List.range n).find? (fun i => !ok i) with
  | some i => (2, i)
  | none => (0, 0)
theorem search_hit {ok : Nat → Bool} {n k : Nat} (hk : k < n) (h : ∀ j, j < k → ok j = true) (hb : ok k = false) : search ok n = (2, (k : Int)) := by
  unfold search
  have : (List.range n).find? (fun i => !ok i) = some k := by
    rw [List.find?_eq_some_iff_append]
    refine ⟨by simp [hb], List.range k, (List.range (n - k - 1)).map (k + 1 + ·), ?_, ?_⟩
    · have e1 : List.range n = List.range (k + (n - k)) := by congr 1; omega
      have e2 : n - k = (n - k - 1) + 1 := by omega
      rw [e1, List.range_add, e2, List.range_succ_eq_map]
      simp [Function.comp_def, Nat.add_assoc, Nat.add_comm 1]
    · intro a ha
      simp [h a (List.mem_range.1 ha)]
  rw [this]
theorem search_all {ok : Nat → Bool} {n : Nat} (h : ∀ j, j < n → ok j = true) : search ok n = (0, 0) := by
  unfold search
  have : (List.range n).find? (fun i => !ok i) = none := by
    rw [List.find?_eq_none]
    intro a ha
    simp [h a (List.mem_range.1 ha)]
  rw [this]
def checkOut (ok : Nat → Bool) (n : Nat) : Int × Int := if n < 1 ∨ 400 < n then (1, 0) else search ok n
def ListAt (w : World) (ao : Option Addr) (n : Nat) (L : Nat → Nod) : Prop := 0 < n → ∃ b o, ao = some ⟨b, o, none⟩ ∧ NodesAt w b o n L
theorem ListAt.below {w w' : World} {ao : Option Addr} {n : Nat} {L : Nat → Nod} (h : ListAt w ao n L) (hb : Below w.heap.size w w') : ListAt w' ao n L := fun hn =>
  let ⟨b, o, e, g⟩ := h hn
  ⟨b, o, e, g.below hb⟩
theorem mayB_depth {L : Nat → Nod} {j : Nat} (h : mayB L j = true) : 0 ≤ (L j).d ∧ (L j).d ≤ 11 := by
  unfold mayB at h
  split at h
  · next e => subst e; simp at h; omega
  · simp [depthB] at h; omega
theorem ret_two {a b : Int} {p : Int × Int} (h : p = (a, b)) : Ending.returned (.tuple #[.int .i64 a, .int .i64 b]) = .returned (.tuple #[.int .i64 p.1, .int .i64 p.2]) := by rw [h]
theorem mayBe_is (b o n c : Nat) (L : Nat → Nod) (i : Nat) (r : Bool) (hr : mayB L i = r) (w : World) (hn : n ≤ maxLen) (hi : i < n) (h : NodesAt w b o n L) (hall : ∀ j, j < i → mayB L j = true) :
    Calls Try.prog 33 #[.slice (some ⟨b, o, none⟩) n c, .int .i64 i] w fun e w' => e = .returned (.bool r) ∧ Below w.heap.size w w' := by
  subst hr
  by_cases h0 : i = 0
  · subst h0
    exact mayBe_zero b o n c L w hn hi h
  · have hd := mayB_depth (hall (i - 1) (by omega))
    exact mayBe_next b o n c L i w hn (by omega) hi h hd.1 hd.2
set_option maxHeartbeats 400000 in
theorem treeCheck_any (ao : Option Addr) (n c : Nat) (L : Nat → Nod) (w : World) (hn : n ≤ maxLen) (h : ListAt w ao n L) :
    Calls Try.prog 23 #[.slice ao n c] w fun e w' => e = .returned (.tuple #[.int .i64 (checkOut (mayB L) n).1, .int .i64 (checkOut (mayB L) n).2]) ∧ Below w.heap.size w w' := by
  have HN := hide hn
  unfold maxLen at hn
  by_cases hb : n < 1 ∨ 400 < n
  · have HX : Hid (checkOut (mayB L) n = (1, 0)) := hide (by unfold checkOut; rw [if_pos hb])
    clear h
    rcases hb with hb | hb
    all_goals
      go_enter Try.func23, Try.ntmps23
      go_wp2
      go_ret2
      exact ⟨ret_two HX.out, Below.refl _ _⟩
  · have h1 : 1 ≤ n := by omega
    have h4 : n ≤ 400 := by omega
    have HX : Hid (checkOut (mayB L) n = search (mayB L) n) := hide (by unfold checkOut; rw [if_neg hb])
    clear hb
    obtain ⟨b, o, rfl, hL⟩ := h (by omega)
    have HL := hide hL
    clear h hL
    go_enter Try.func23, Try.ntmps23
    go_wp2
    go_loopw [4, 15] (fun _ i wr => ∃ k : Nat, k ≤ n ∧ i = .int .i64 k ∧ Hid (∀ j, j < k → mayB L j = true) ∧ Below w.heap.size w wr) (fun _ i _ => n - (intOf i).toNat)
    case atStart => exact ⟨0, Nat.zero_le _, rfl, hide (fun j h => absurd h (Nat.not_lt_zero _)), Below.refl _ _⟩
    case round =>
      obtain ⟨k, hk, rfl, hall, hbel⟩ := hrel
      by_cases hlt : k < n
      · have HL2 := hide (HL.out.below hbel)
        cases hM : mayB L k with
        | true =>
          have HS := hide (upto_step hall.out hM)
          have HM := hide hM
          clear hM
          go_wp2_with (go_at_call 33; refine (mayBe_is b o n c L k true (unhide HM) _ (unhide HN) hlt (unhide HL2) (unhide hall)).mono ?_; rintro e w2 ⟨rfl, hb2⟩)
          go_roundw
          case rel => exact ⟨k + 1, by omega, by go_num, HS, hbel.trans (hb2.mono hbel.size)⟩
          case measure => simp [intOf]; omega
        | false =>
          have HS := hide (HX.out.trans (search_hit hlt hall.out hM))
          have HM := hide hM
          clear hM
          go_wp2_with (go_at_call 33; refine (mayBe_is b o n c L k false (unhide HM) _ (unhide HN) hlt (unhide HL2) (unhide hall)).mono ?_; rintro e w2 ⟨rfl, hb2⟩)
          go_ret2
          exact ⟨ret_two HS.out, hbel.trans (hb2.mono hbel.size)⟩
      · have HS := hide (HX.out.trans (search_all fun j hj => hall.out j (by omega)))
        go_wp2
        go_ret2
        exact ⟨ret_two HS.out, hbel⟩
end Go.Proofs.Ytobgcaemnpkbmaa
namespace Go.Proofs.Ytobgcaemnpkbmaa
open Go.RowKit
def oneB (n : Nod) : Bool := elB n || txB n
theorem name_nonempty {s : ByteArray} (h : s.toList.isEmpty = true) : nameB s = false := by
  apply nameB_short
  have h2 : s.toList = [] := by simpa using h
  have h3 : s.toList.length = s.size := by rw [ByteArray.toList_eq, Array.length_toList]; rfl
  rw [h2] at h3
  simp at h3
  omega
end Go.Proofs.Ytobgcaemnpkbmaa
namespace Go.Proofs.Ytobgcaemnpkbmaa
open Go.RowKit
end Go.Proofs.Ytobgcaemnpkbmaa
namespace Go.Proofs.Ytobgcaemnpkbmaa
open Go.RowKit
def parentOf (L : Nat → Nod) (i : Nat) : Nat → Int
  | 0 => -1
  | j + 1 => if (L j).d = (L i).d - 1 then (j : Int) else parentOf L i j
end Go.Proofs.Ytobgcaemnpkbmaa
namespace Go.Proofs.Ytobgcaemnpkbmaa
open Go.RowKit
theorem last_below (f : Nat → Int) (x : Int) : ∀ i, 0 < i → f 0 < x → ∃ p, p < i ∧ f p < x ∧ ∀ j, p < j → j < i → x ≤ f j := by
  intro i
  induction i with
  | zero => intro h; exact absurd h (Nat.lt_irrefl _)
  | succ i ih =>
    intro _ h0
    by_cases hi : f i < x
    · exact ⟨i, Nat.lt_succ_self _, hi, fun j h1 h2 => by omega⟩
    · by_cases hz : i = 0
      · subst hz; exact absurd h0 hi
      · obtain ⟨p, h1, h2, h3⟩ := ih (by omega) h0
        refine ⟨p, by omega, h2, fun j g1 g2 => ?_⟩
        by_cases e : j = i
        · subst e; omega
        · exact h3 j g1 (by omega)
theorem mayB_zero {L : Nat → Nod} (h : mayB L 0 = true) : (L 0).d = 0 := by
  unfold mayB at h; rw [if_pos rfl] at h; simp at h; exact h.1
theorem mayB_step {L : Nat → Nod} {j : Nat} (h : mayB L (j + 1) = true) : (L (j + 1)).d ≤ (L j).d + 1 := by
  unfold mayB at h; rw [if_neg (by omega)] at h; simp [depthB] at h; omega
structure Par (L : Nat → Nod) (i p : Nat) : Prop where
  lt : p < i
  up : (L p).d = (L i).d - 1
  deep : ∀ j, p < j → j < i → (L i).d ≤ (L j).d
theorem par_of {L : Nat → Nod} {i : Nat} (h0 : 0 < i) (hall : ∀ j, j < i → mayB L j = true) (h1 : 1 ≤ (L i).d) (h2 : (L i).d ≤ (L (i - 1)).d + 1) : ∃ p, Par L i p := by
  obtain ⟨p, g1, g2, g3⟩ := last_below (fun j => (L j).d) (L i).d i h0 (by show (L 0).d < _; have := mayB_zero (hall 0 h0); omega)
  refine ⟨p, g1, ?_, g3⟩
  have g2 : (L p).d < (L i).d := g2
  by_cases e : p + 1 = i
  · have : i - 1 = p := by omega
    rw [this] at h2; omega
  · have a := mayB_step (hall (p + 1) (by omega))
    have b := g3 (p + 1) (by omega) (by omega)
    have b : (L i).d ≤ (L (p + 1)).d := b
    omega
theorem Par.parent {L : Nat → Nod} {i p : Nat} (h : Par L i p) : parentOf L i i = p := by
  have aux : ∀ m, p < m → m ≤ i → parentOf L i m = p := by
    intro m
    induction m with
    | zero => intro h; omega
    | succ m ih =>
      intro g1 g2
      by_cases e : m = p
      · subst e; rw [parentOf, if_pos h.up]
      · have := h.deep m (by omega) (by omega)
        rw [parentOf, if_neg (by omega)]
        exact ih (by omega) (by omega)
  exact aux i h.lt (Nat.le_refl _)
theorem Par.back {L : Nat → Nod} {i p : Nat} (h : Par L i p) : ∀ m, p < m → m ≤ i → (∀ j, m ≤ j → j < i → ¬ ((L i).k ≠ 0 ∧ (L j).d = (L i).d ∧ (L j).k = (L i).k)) → goBack L i i = goBack L i m := by
  intro m h1 h2 h3
  have aux : ∀ t, m ≤ t → t ≤ i → goBack L i t = goBack L i m := by
    intro t
    induction t with
    | zero => intro a b; omega
    | succ t ih =>
      intro a b
      by_cases e : m = t + 1
      · rw [e]
      · have := h.deep t (by omega) (by omega)
        rw [goBack_on (by omega) (h3 t (by omega) (by omega))]
        exact ih (by omega) (by omega)
  exact aux i h2 (Nat.le_refl _)
theorem Par.good {L : Nat → Nod} {i p : Nat} (h : Par L i p) (h3 : ∀ j, p < j → j < i → ¬ ((L i).k ≠ 0 ∧ (L j).d = (L i).d ∧ (L j).k = (L i).k)) : goBack L i i = !(L p).t.toList.isEmpty := by
  rw [h.back (p + 1) (by omega) h.lt (fun j a b => h3 j (by omega) b), goBack_up]
  have := h.up; omega
theorem Par.bad {L : Nat → Nod} {i p j : Nat} (h : Par L i p) (h1 : p < j) (h2 : j < i) (h3 : (L i).k ≠ 0 ∧ (L j).d = (L i).d ∧ (L j).k = (L i).k) : goBack L i i = false := by
  have aux : ∀ t, j < t → t ≤ i → goBack L i t = false := by
    intro t
    induction t with
    | zero => intro a; omega
    | succ t ih =>
      intro a b
      have hd := h.deep t (by omega) (by omega)
      by_cases c : (L i).k ≠ 0 ∧ (L t).d = (L i).d ∧ (L t).k = (L i).k
      · exact goBack_same (by omega) c.1 c.2.1 c.2.2
      · rw [goBack_on (by omega) c]
        by_cases e : t = j
        · subst e; exact absurd h3 c
        · exact ih (by omega) (by omega)
  exact aux i h2 (Nat.le_refl _)
theorem Par.text {L : Nat → Nod} {i p : Nat} (h : Par L i p) (ht : (L p).t.toList.isEmpty = true) : goBack L i i = false := by
  by_cases c : ∃ j, p < j ∧ j < i ∧ ((L i).k ≠ 0 ∧ (L j).d = (L i).d ∧ (L j).k = (L i).k)
  · obtain ⟨j, h1, h2, h3⟩ := c
    exact h.bad h1 h2 h3
  · rw [h.good (fun j a b d => c ⟨j, a, b, d⟩), ht]; rfl
end Go.Proofs.Ytobgcaemnpkbmaa
namespace Go.Proofs.Ytobgcaemnpkbmaa
open Go.RowKit
structure BoxAt (w : World) (b : Nat) (n : Nod) : Prop where
  lt : b < w.heap.size
  c0 : w.cell? ⟨b, 0, none⟩ = some (.int .i64 n.d)
  c1 : w.cell? ⟨b, 1, none⟩ = some (.string n.t)
  c2 : w.cell? ⟨b, 2, none⟩ = some (.int .i64 n.k)
theorem BoxAt.below {w w' : World} {b : Nat} {n : Nod} (h : BoxAt w b n) (hb : Below w.heap.size w w') : BoxAt w' b n :=
  ⟨Nat.lt_of_lt_of_le h.lt hb.size, (hb.cell (p := ⟨b, _, none⟩) h.lt).trans h.c0, (hb.cell (p := ⟨b, _, none⟩) h.lt).trans h.c1, (hb.cell (p := ⟨b, _, none⟩) h.lt).trans h.c2⟩
end Go.Proofs.Ytobgcaemnpkbmaa
namespace Go.Proofs.Ytobgcaemnpkbmaa
open Go.RowKit
end Go.Proofs.Ytobgcaemnpkbmaa
namespace Go.Proofs.Ytobgcaemnpkbmaa
open Go.RowKit
theorem byteInfo : (Try.prog.info? 5).map (fun i => (i.zero, i.size, i.bytes)) = some (some (.int .u8 0), 1, 1) := by kernel_rfl
set_option maxHeartbeats 4000000 in
set_option maxRecDepth 100000 in
theorem clone_lite (s : ByteArray) (w : World) (hlim : s.size ≤ 281474976710656) :
    Calls Try.prog 84 #[.string s] w fun e w' => e = .returned (.string s) ∧ Below w.heap.size w w' := by
  by_cases h0 : s.size = 0
  · have hs : s = ⟨#[]⟩ := by
      apply ByteArray.ext
      exact Array.eq_empty_of_size_eq_zero h0
    subst hs
    go_enter Try.func84, Try.ntmps84
    go_wp2
    go_ret
    exact ⟨rfl, Below.refl _ _⟩
  · obtain ⟨i0, hi, hz0, hz1, hz2⟩ := info_parts byteInfo
    have hinfo : (Try.prog.info? 5).map (·.size) = some 1 := by rw [hi]; simp [hz1]
    have hco : (Try.prog).cellsOf 5 = 1 := by simp [Program.cellsOf, hi, hz1]
    obtain ⟨M, hM⟩ : ∃ M, M = madeCells (Value.int .u8 0).cells (((s.size : Nat) : Int).toNat * i0.size) := ⟨_, rfl⟩
    have hMs : M.size = s.size := by rw [hM, size_madeCells, hz1]; simp
    have hmk : ∀ W : World, (Instr.makeSlice 128 (.int .i64 (s.size : Int)) (.int .i64 (s.size : Int))).run Try.prog W = .ok (.slice (some ⟨W.heap.size, 0, none⟩) s.size s.size) (W.alloc (.cells M 5)) := fun W => by
      have h := run_make (P := Try.prog) W 128 5 i0 (.int .u8 0) Try.underlying128 hi hz0 .i64 .i64 (s.size : Int) (s.size : Int) (by omega) (by omega) (by rw [hz2]; omega) (by omega)
      rw [← hM] at h
      simpa using h
    clear hM
    have hcp := Lib.run_copy_row_string (P := Try.prog) (w.alloc (.cells M 5)) 128 9 3 5 w.heap.size 0 s.size s.size s M 5 Try.underlying128 hinfo (heap_alloc_new w _) (Nat.le_refl _) (by omega)
    obtain ⟨Y, hY⟩ : ∃ Y, Y = (M.toList.take 0 ++ Lib.byteCells s.data.toList ++ M.toList.drop (0 + s.size)).toArray := ⟨_, rfl⟩
    rw [← hY] at hcp
    have hYl : Y.toList = Lib.byteCells s.data.toList := by
      rw [hY, List.toList_toArray, List.take_zero, List.nil_append, List.drop_of_length_le (by rw [Array.length_toList]; omega), List.append_nil]
    have hYs : Y.size = s.size := by rw [← Array.length_toList, hYl, Lib.byteCells_length, ← Lib.size_eq]
    have hgY : ((w.alloc (.cells M 5)).setRow w.heap.size Y).heap[w.heap.size]? = some (.cells Y 5 (0, 0)) := setRow_heap _ _ M _ 5 (0, 0) (heap_alloc_new w _)
    have hne : s.data.toList ≠ [] := fun e => h0 (by rw [Lib.size_eq, e]; rfl)
    have hUS := Lib.run_unsafeString_row (P := Try.prog) ((w.alloc (.cells M 5)).setRow w.heap.size Y) 129 3 9 5 Try.underlying129 hco w.heap.size Y.size (by unfold World.shape?; rw [hgY]) s.data.toList hne (by rw [← Lib.size_eq]; omega) (by rw [← Lib.size_eq]; omega)
      (fun j x hx => Lib.cells_of_row hgY Y.size j _ (by rw [List.take_of_length_le (by rw [Array.length_toList]; exact Nat.le_refl _), hYl]; simp [Lib.byteCells, hx]))
    rw [← Lib.size_eq] at hUS
    clear hY
    go_enter Try.func84, Try.ntmps84
    go_wp2
    go_ret
    have hb1 : Below w.heap.size w (w.alloc (.cells M 5)) := (Below.refl _ w).alloc (Nat.le_refl _) _
    have hb2 : Below w.heap.size (w.alloc (.cells M 5)) ((w.alloc (.cells M 5)).setRow w.heap.size Y) := ⟨rfl, rfl, rfl, by simp, fun k hk => setRow_other _ _ _ _ (by omega)⟩
    exact ⟨rfl, Lib.below_freeze (hb1.trans hb2) (p := ⟨w.heap.size, 0, none⟩) (Nat.le_refl _) _⟩
theorem clone_any (s : ByteArray) (w : World) (hlim : s.size ≤ 281474976710656) :
    Calls Try.prog 64 #[.string s] w fun e w' => e = .returned (.string s) ∧ Below w.heap.size w w' := by
  go_enter Try.func64, Try.ntmps64
  go_wp2_with (first | (go_at_call 84; refine (clone_lite s _ hlim).mono ?_; rintro e w1 ⟨rfl, hb⟩))
  go_ret
  exact ⟨rfl, hb⟩
theorem own_any (s : ByteArray) (w : World) (hlim : s.size ≤ 281474976710656) :
    Calls Try.prog 46 #[.string s] w fun e w' => e = .returned (.string s) ∧ Below w.heap.size w w' := by
  go_enter Try.func46, Try.ntmps46
  go_wp2_with (first | (go_at_call 64; refine (clone_any s _ hlim).mono ?_; rintro e w1 ⟨rfl, hb⟩))
  go_ret
  exact ⟨rfl, hb⟩
end Go.Proofs.Ytobgcaemnpkbmaa
namespace Go.Proofs.Ytobgcaemnpkbmaa
open Go.RowKit
def Plain (w : World) (b : Nat) : Prop := ∃ c t, w.heap[b]? = some (.cells c t (0, 0))
theorem nodeInfoP : (Try.prog.info? 79).map (fun i => (i.zero, i.size, i.bytes)) = some (some (.agg #[.int .i64 0, .int .i64 0, .string ⟨#[]⟩, .string ⟨#[]⟩, .slice none 0 0, .pointer none, .slice none 0 0]), 7, 104) := by kernel_rfl
theorem run_eql_ptr {w : World} {a b : Nat} (ha : Plain w a) (hb : Plain w b) : (binOp .eql 69 (.pointer (some ⟨a, 0, none⟩)) (.pointer (some ⟨b, 0, none⟩))).run Try.prog w = .ok (.bool (a == b)) w := by
  obtain ⟨i0, hi, _, hz1, _⟩ := info_parts nodeInfoP
  by_cases h : a = b
  · subst h
    rw [run_eql_ptr_same w _ Try.underlying69 hi]
    simp
  · obtain ⟨ca, ta, ha⟩ := ha
    obtain ⟨cb, tb, hb⟩ := hb
    rw [run_eql_ptr_other w Try.underlying69 hi (by omega) (fun e => h (by cases e; rfl)) ha hb]
    simp [h]
theorem run_neq_ptr {w : World} {a b : Nat} (ha : Plain w a) (hb : Plain w b) : (binOp .neq 69 (.pointer (some ⟨a, 0, none⟩)) (.pointer (some ⟨b, 0, none⟩))).run Try.prog w = .ok (.bool (a != b)) w := by
  have h := run_eql_ptr ha hb
  simp only [binOp] at h ⊢
  simp only [Sem.run_bind] at h ⊢
  cases hr : (Op.equal 69 (.pointer (some ⟨a, 0, none⟩)) (.pointer (some ⟨b, 0, none⟩))).run Try.prog w with
  | ok v w' =>
    rw [hr] at h
    simp at h
    obtain ⟨rfl, rfl⟩ := h
    simp [bne]
  | _ => rw [hr] at h; simp [Result.andThen] at h
set_option maxHeartbeats 400000 in
theorem index_any (g n c : Nat) (K : List Nat) (x : Nat) (w : World) (hn : n = K.length) (hbig : n ≤ 1099511627776) (k : Nat) (hk : k < n) (hx : K[k]? = some x) (hfst : ∀ j, j < k → K[j]? ≠ some x) (hc : ∀ j y, K[j]? = some y → w.cell? ⟨g, j, none⟩ = some (.pointer (some ⟨y, 0, none⟩))) (hp : ∀ y, y ∈ K → Plain w y) :
    Calls Try.prog 47 #[.slice (some ⟨g, 0, none⟩) n c, .pointer (some ⟨x, 0, none⟩)] w fun e w' => e = .returned (.int .i64 k) ∧ w' = w := by
  have hpx : Plain w x := hp x (List.mem_of_getElem? hx)
  have HC := hide hc
  have HP := hide hp
  have HF := hide hfst
  have HN := hide hn
  clear hc hp hfst hn
  go_enter Try.func47, Try.ntmps47
  go_wp2_with fail
  go_loopw [8] (fun i wr => ∃ j : Nat, j ≤ k ∧ i = .int .i64 j ∧ wr = w) (fun i _ => n - (intOf i).toNat)
  case atStart => exact ⟨0, Nat.zero_le _, rfl, rfl⟩
  case round =>
    obtain ⟨j, hj, rfl, rfl⟩ := hrel
    have hjn : j < K.length := by have := HN.out; omega
    have hy := List.getElem?_eq_getElem hjn
    have cj := HC.out j _ hy
    have heq := run_eql_ptr hpx (HP.out _ (List.getElem_mem hjn))
    have hlt : j < n := by omega
    by_cases e : j = k
    · subst e
      have hxy : x = K[j] := by rw [hy] at hx; exact (Option.some.inj hx).symm
      rw [hxy, beq_self_eq_true] at heq
      subst hxy
      go_wp2_with fail
      go_ret
      exact ⟨rfl, rfl⟩
    · have hxy : (x == K[j]) = false := by
        have := HF.out j (by omega)
        rw [hy] at this
        simp
        exact fun e => this (by rw [e])
      rw [hxy] at heq
      go_wp2_with fail
      go_roundw
      case rel => exact ⟨j + 1, by omega, by go_num, trivial⟩
      case measure => simp [intOf]; omega
end Go.Proofs.Ytobgcaemnpkbmaa
namespace Go.Proofs.Ytobgcaemnpkbmaa
open Go.RowKit
structure PN where
  id : Int
  par : Int
  tag : ByteArray
  key : Int
  text : ByteArray
  ats : List (ByteArray × ByteArray)
def nmOf (l : List (ByteArray × ByteArray)) (i : Nat) : ByteArray := (l.getD i (ByteArray.empty, ByteArray.empty)).1
def vlOf (l : List (ByteArray × ByteArray)) (i : Nat) : ByteArray := (l.getD i (ByteArray.empty, ByteArray.empty)).2
structure RN extends PN where
  ao : Option Addr
  an : Nat
  ac : Nat
def RN.cells (n : RN) : List Value := [.int .i64 n.id, .int .i64 n.par, .string n.tag, .int .i64 n.key, .slice n.ao n.an n.ac, .string n.text]
def rowOf (R : List RN) : List Value := R.flatMap RN.cells
structure RN.Ok (S : Nat → Prop) (w : World) (n : RN) : Prop where
  an : n.an = n.ats.length
  few : n.an ≤ 5
  nil : n.ao = none → n.an = 0 ∧ n.ac = 0
  tag : n.tag.size ≤ maxLen
  text : n.text.size ≤ maxLen
  at' : AttrsAt w n.ao n.an (nmOf n.ats) (vlOf n.ats)
  own : ∀ ad, n.ao = some ad → S ad.block ∧ ad.block < w.heap.size
theorem RN.Ok.mono {S S' : Nat → Prop} {w : World} {n : RN} (h : n.Ok S w) (hS : ∀ b, b < w.heap.size → S b → S' b) : n.Ok S' w :=
  ⟨h.an, h.few, h.nil, h.tag, h.text, h.at', fun ad e => ⟨hS _ (h.own ad e).2 (h.own ad e).1, (h.own ad e).2⟩⟩
theorem RN.Ok.below {S : Nat → Prop} {w w' : World} {n : RN} (h : n.Ok S w) (hb : Below w.heap.size w w') : n.Ok S w' :=
  ⟨h.an, h.few, h.nil, h.tag, h.text, h.at'.below hb, fun ad e => ⟨(h.own ad e).1, Nat.lt_of_lt_of_le (h.own ad e).2 hb.size⟩⟩
theorem ownsRow_below {w w' : World} {base : Nat} {e : TypeId} {size : Nat} {v : Value} {n : Nat} {xs : List Value} (h : w.ownsRow base e size v n xs) (hb : Below w.heap.size w w') : w'.ownsRow base e size v n xs :=
  h.kept (row := none) ⟨hb.os, hb.tape, hb.output, hb.size, fun k hk _ => hb.block k hk⟩ (by cases hv : v.ownBlock <;> simp)
def atP (R : List RN) (id : Int) : Int := match R.findIdx? (fun n => n.id == id) with | some k => (k : Int) | none => -1
theorem atP_hit {R : List RN} {id : Int} {k : Nat} (hk : k < R.length) (h : R[k].id = id) (hall : ∀ j, (hj : j < R.length) → j < k → R[j].id ≠ id) : atP R id = k := by
  unfold atP
  have : R.findIdx? (fun n => n.id == id) = some k := by
    rw [List.findIdx?_eq_some_iff_getElem]
    refine ⟨hk, by simp [h], fun j hj => ?_⟩
    simpa using hall j (by omega) hj
  rw [this]
theorem atP_none {R : List RN} {id : Int} (hall : ∀ j, (hj : j < R.length) → R[j].id ≠ id) : atP R id = -1 := by
  unfold atP
  have : R.findIdx? (fun n => n.id == id) = none := by
    rw [List.findIdx?_eq_none_iff]
    intro x hx
    obtain ⟨j, hj, rfl⟩ := List.getElem_of_mem hx
    simpa using hall j hj
  rw [this]
end Go.Proofs.Ytobgcaemnpkbmaa
