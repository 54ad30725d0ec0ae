/- Pure Leaf Attrs Elem Place May -/
import Derived.WalkKit
import Derived.Deep.Draws
import Derived.Test.YtobgcaemnpkbmaaGreatRows
import Derived.WalkSpells
import Derived.WalkLawsBesides
import Derived.BigQuiet
import Derived.Deep.RegionWith
namespace Go.Proofs.YtobgcaemnpkbmaaGreat
open Go.RowKit
theorem hide {p : Prop} (h : p) : Hid p := h
theorem unhide {p : Prop} (h : Hid p) : p := h
theorem drewN_of {B : Nat} {a w : World} (h : Below B a w) (n : Nat) : Below B a (w.drewN n) := h.trans ⟨rfl, rfl, rfl, Nat.le_refl _, fun _ _ => rfl⟩
def letB (c : UInt8) : Bool := decide (97 ≤ c.toNat) && decide (c.toNat ≤ 122)
def nameB (s : ByteArray) : Bool := decide (1 ≤ s.size) && decide (s.size ≤ 8) && s.data.toList.all letB
def textB (s : ByteArray) : Bool := decide (s.size ≤ 20)
theorem nameB_short {s : ByteArray} (h : s.size < 1) : nameB s = false := by
  unfold nameB; rw [decide_eq_false (by omega)]; rfl
theorem nameB_long {s : ByteArray} (h : 8 < s.size) : nameB s = false := by
  unfold nameB; rw [decide_eq_false (p := s.size ≤ 8) (by omega)]; simp
theorem nameB_no {s : ByteArray} {k : Nat} (hk : k < s.size) (h : letB s[k] = false) : nameB s = false := by
  have h2 : s.data.toList.all letB = false := by
    apply Bool.eq_false_iff.2
    intro h3
    have := List.all_eq_true.1 h3 s[k] (by
      have e : s[k] = s.data.toList[k]'(by simpa using hk) := rfl
      rw [e]; exact List.getElem_mem _)
    rw [h] at this; cases this
  unfold nameB; rw [h2]; simp
theorem nameB_yes {s : ByteArray} (h1 : 1 ≤ s.size) (h8 : s.size ≤ 8) (h : ∀ k, (hk : k < s.size) → letB s[k] = true) : nameB s = true := by
  have h2 : s.data.toList.all letB = true := by
    apply List.all_eq_true.2
    intro x hx
    obtain ⟨k, hk, e⟩ := List.getElem_of_mem hx
    have hk' : k < s.size := by simpa using hk
    have := h k hk'
    rw [← e]; exact this
  unfold nameB; rw [h2, decide_eq_true h1, decide_eq_true h8]; rfl
theorem nameB_bad {s : ByteArray} (h1 : s.size < 1 ∨ 8 < s.size) : nameB s = false := by
  rcases h1 with h | h
  · exact nameB_short h
  · exact nameB_long h
theorem letB_in {c : UInt8} (h1 : (97 : Int) ≤ c.toNat) (h2 : (c.toNat : Int) ≤ 122) : letB c = true := by
  unfold letB; rw [decide_eq_true (by omega), decide_eq_true (by omega)]; rfl
theorem letB_true {c : UInt8} (h : letB c = true) : (97 : Int) ≤ c.toNat ∧ (c.toNat : Int) ≤ 122 := by
  unfold letB at h; simp at h; omega
theorem letB_false {c : UInt8} (h : ¬ letB c = true) : (c.toNat : Int) < 97 ∨ ((97 : Int) ≤ c.toNat ∧ (122 : Int) < c.toNat) := by
  by_cases h1 : (c.toNat : Int) < 97
  · exact .inl h1
  · refine .inr ⟨by omega, ?_⟩
    by_cases h2 : (122 : Int) < c.toNat
    · exact h2
    · exact absurd (letB_in (by omega) (by omega)) h
theorem all_step {s : ByteArray} {k : Nat} (hk : k < s.size) (h : ∀ j, (hj : j < s.size) → j < k → letB s[j] = true) (hl : letB s[k] = true) : ∀ j, (hj : j < s.size) → j < k + 1 → letB s[j] = true := by
  intro j hj hlt
  by_cases e : j = k
  · subst e; exact hl
  · exact h j hj (by omega)
theorem ret_bool {a b : Bool} (h : a = b) : Ending.returned (.bool a) = .returned (.bool b) := by rw [h]
def attrB (nm vl : Nat → ByteArray) (j : Nat) : Bool := nameB (nm j) && textB (vl j) && (decide (j = 0) || Op.bytesLess (nm (j - 1)).toList (nm j).toList)
def attrsB (n : Nat) (nm vl : Nat → ByteArray) : Bool := decide (n ≤ 5) && (List.range n).all (attrB nm vl)
theorem attrsB_long {n : Nat} {nm vl : Nat → ByteArray} (h : 5 < n) : attrsB n nm vl = false := by
  unfold attrsB; rw [decide_eq_false (by omega)]; rfl
theorem attrsB_no {n k : Nat} {nm vl : Nat → ByteArray} (hk : k < n) (h : attrB nm vl k = false) : attrsB n nm vl = false := by
  have : (List.range n).all (attrB nm vl) = false := by
    apply Bool.eq_false_iff.2
    intro h3
    have := List.all_eq_true.1 h3 k (List.mem_range.2 hk)
    rw [h] at this; cases this
  unfold attrsB; rw [this]; simp
theorem attrsB_yes {n : Nat} {nm vl : Nat → ByteArray} (h5 : n ≤ 5) (h : ∀ j, j < n → attrB nm vl j = true) : attrsB n nm vl = true := by
  have : (List.range n).all (attrB nm vl) = true := List.all_eq_true.2 fun j hj => h j (List.mem_range.1 hj)
  unfold attrsB; rw [this, decide_eq_true h5]; rfl
theorem attrB_name {nm vl : Nat → ByteArray} {j : Nat} (h : nameB (nm j) = false) : attrB nm vl j = false := by unfold attrB; rw [h]; rfl
theorem attrB_text {nm vl : Nat → ByteArray} {j : Nat} (h : textB (vl j) = false) : attrB nm vl j = false := by unfold attrB; rw [h]; simp
theorem attrB_less {nm vl : Nat → ByteArray} {j : Nat} (h0 : 0 < j) (h : Op.bytesLess (nm (j - 1)).toList (nm j).toList = false) : attrB nm vl j = false := by
  unfold attrB; rw [h, decide_eq_false (by omega)]; simp
theorem attrB_first {nm vl : Nat → ByteArray} (h1 : nameB (nm 0) = true) (h2 : textB (vl 0) = true) : attrB nm vl 0 = true := by unfold attrB; rw [h1, h2]; rfl
theorem attrB_next {nm vl : Nat → ByteArray} {j : Nat} (h1 : nameB (nm j) = true) (h2 : textB (vl j) = true) (h : Op.bytesLess (nm (j - 1)).toList (nm j).toList = true) : attrB nm vl j = true := by
  unfold attrB; rw [h1, h2, h]; simp
theorem upto_step {p : Nat → Bool} {k : Nat} (h : ∀ j, j < k → p j = true) (hl : p k = true) : ∀ j, j < k + 1 → p j = true := by
  intro j hlt
  by_cases e : j = k
  · subst e; exact hl
  · exact h j (by omega)
end Go.Proofs.YtobgcaemnpkbmaaGreat
namespace Go.Proofs.YtobgcaemnpkbmaaGreat
open Go.RowKit
set_option maxHeartbeats 400000 in
theorem isText_any (s : ByteArray) (w : World) (hs : s.size ≤ maxLen) :
    Calls Tryz.prog 99 #[.string s] w fun e w' => e = .returned (.bool (textB s)) ∧ w' = w := by
  unfold maxLen at hs
  go_enter Tryz.func99, Tryz.ntmps99
  go_wp2
  go_ret
  exact ⟨ret_bool (by unfold textB; simp; omega), rfl⟩
set_option maxHeartbeats 400000 in
theorem isName_any (s : ByteArray) (w : World) (hs : s.size ≤ maxLen) :
    Calls Tryz.prog 97 #[.string s] w fun e w' => e = .returned (.bool (nameB s)) ∧ w' = w := by
  unfold maxLen at hs
  by_cases hb : s.size < 1 ∨ 8 < s.size
  · have HB : Hid (nameB s = false) := nameB_bad hb
    rcases hb with h | h
    all_goals
      go_enter Tryz.func97, Tryz.ntmps97
      go_wp2
      go_ret
      exact ⟨ret_bool HB.out.symm, rfl⟩
  · have h1 : 1 ≤ s.size := by omega
    have h8 : s.size ≤ 8 := by omega
    clear hb
    go_enter Tryz.func97, Tryz.ntmps97
    go_wp2
    go_loop [3, 14] (fun _ i => ∃ k : Nat, k ≤ s.size ∧ i = .int .i64 k ∧ Hid (∀ j, (hj : j < s.size) → j < k → letB s[j] = true)) (fun _ i => s.size - (intOf i).toNat)
    case atStart => exact ⟨0, Nat.zero_le _, rfl, fun j _ h => absurd h (Nat.not_lt_zero _)⟩
    case round =>
      obtain ⟨k, hk, rfl, hall⟩ := hrel
      by_cases hlt : k < s.size
      · by_cases hL : letB s[k] = true
        · obtain ⟨hlo, hhi⟩ := letB_true hL
          have HS : Hid (∀ j, (hj : j < s.size) → j < k + 1 → letB s[j] = true) := all_step hlt hall.out hL
          clear hall hL
          go_wp2
          go_round
          case rel => exact ⟨k + 1, by omega, by go_num, HS⟩
          case measure => simp [intOf]; omega
        · have HN : Hid (nameB s = false) := nameB_no hlt (by simpa using hL)
          have hc := letB_false hL
          clear hall hL
          rcases hc with hlo | ⟨hlo, hhi⟩
          all_goals
            go_wp2
            go_ret
            exact ⟨ret_bool HN.out.symm, rfl⟩
      · go_wp2
        go_ret
        exact ⟨ret_bool (nameB_yes h1 h8 fun j hj => hall.out j hj (by omega)).symm, rfl⟩
set_option maxHeartbeats 400000 in
theorem name_any (s : ByteArray) (w : World) (hs : s.size ≤ maxLen) :
    Calls Tryz.prog 45 #[.string s] w fun e w' => e = .returned (.bool (nameB s)) ∧ w' = w := by
  unfold maxLen at hs
  go_enter Tryz.func45, Tryz.ntmps45
  go_wp2
  go_loop [3] (fun i => ∃ k : Nat, k ≤ s.size ∧ i = .int .i64 k ∧ Hid (∀ j, (hj : j < s.size) → j < k → letB s[j] = true)) (fun i => s.size - (intOf i).toNat)
  case atStart => exact ⟨0, Nat.zero_le _, rfl, fun j _ h => absurd h (Nat.not_lt_zero _)⟩
  case round =>
    obtain ⟨k, hk, rfl, hall⟩ := hrel
    by_cases hlt : k < s.size
    · by_cases hL : letB s[k] = true
      · obtain ⟨hlo, hhi⟩ := letB_true hL
        have HS : Hid (∀ j, (hj : j < s.size) → j < k + 1 → letB s[j] = true) := all_step hlt hall.out hL
        clear hall hL
        go_wp2
        go_round
        case rel => exact ⟨k + 1, by omega, by go_num, HS⟩
        case measure => simp [intOf]; omega
      · have HN : Hid (nameB s = false) := nameB_no hlt (by simpa using hL)
        have hc := letB_false hL
        clear hall hL
        rcases hc with hlo | ⟨hlo, hhi⟩
        all_goals
          go_wp2
          go_ret
          exact ⟨ret_bool HN.out.symm, rfl⟩
    · by_cases h1 : 1 ≤ s.size
      · by_cases h8 : s.size ≤ 8
        · go_wp2
          go_ret
          exact ⟨ret_bool (by rw [nameB_yes h1 h8 fun j hj => hall.out j hj (by omega)]; simp; omega), rfl⟩
        · have HN : Hid (nameB s = false) := nameB_long (by omega)
          go_wp2
          go_ret
          exact ⟨ret_bool (by rw [HN.out]; simp; omega), rfl⟩
      · have HN : Hid (nameB s = false) := nameB_short (by omega)
        go_wp2
        go_ret
        exact ⟨ret_bool HN.out.symm, rfl⟩
theorem isName_is (s : ByteArray) (b : Bool) (h : nameB s = b) (hs : s.size ≤ maxLen) (w : World) :
    Calls Tryz.prog 97 #[.string s] w fun e w' => e = .returned (.bool b) ∧ w' = w := by
  subst h; exact isName_any s w hs
theorem isText_is (s : ByteArray) (b : Bool) (h : textB s = b) (hs : s.size ≤ maxLen) (w : World) :
    Calls Tryz.prog 99 #[.string s] w fun e w' => e = .returned (.bool b) ∧ w' = w := by
  subst h; exact isText_any s w hs
theorem name_is (s : ByteArray) (b : Bool) (h : nameB s = b) (hs : s.size ≤ maxLen) (w : World) :
    Calls Tryz.prog 45 #[.string s] w fun e w' => e = .returned (.bool b) ∧ w' = w := by
  subst h; exact name_any s w hs
def depthB (a d : Int) : Bool := decide (1 ≤ d) && decide (d ≤ a + 1) && decide (d < 12)
theorem depthB_1 {a d : Int} (h : d < 1) : depthB a d = false := by unfold depthB; rw [decide_eq_false (by omega)]; rfl
theorem depthB_2 {a d : Int} (h : a + 1 < d) : depthB a d = false := by unfold depthB; rw [decide_eq_false (p := d ≤ a + 1) (by omega)]; simp
theorem depthB_3 {a d : Int} (h : 12 ≤ d) : depthB a d = false := by unfold depthB; rw [decide_eq_false (p := d < 12) (by omega)]; simp
theorem depthB_4 {a d : Int} (h1 : 1 ≤ d) (h2 : d ≤ a + 1) (h3 : d < 12) : depthB a d = true := by unfold depthB; rw [decide_eq_true h1, decide_eq_true h2, decide_eq_true h3]; rfl
set_option maxHeartbeats 400000 in
theorem depthFits_any (a d : Int) (w : World) (h0 : 0 ≤ a) (h1 : a ≤ 11) :
    Calls Tryz.prog 78 #[.int .i64 a, .int .i64 d] w fun e w' => e = .returned (.bool (depthB a d)) ∧ w' = w := by
  by_cases g1 : 1 ≤ d
  · by_cases g2 : d ≤ a + 1
    · by_cases g3 : d < 12
      · go_enter Tryz.func78, Tryz.ntmps78
        go_wp2
        go_ret
        exact ⟨ret_bool (depthB_4 g1 g2 g3).symm, rfl⟩
      · have HN : Hid (depthB a d = false) := depthB_3 (by omega)
        go_enter Tryz.func78, Tryz.ntmps78
        go_wp2
        go_ret
        exact ⟨ret_bool HN.out.symm, rfl⟩
    · have HN : Hid (depthB a d = false) := depthB_2 (by omega)
      go_enter Tryz.func78, Tryz.ntmps78
      go_wp2
      go_ret
      exact ⟨ret_bool HN.out.symm, rfl⟩
  · have HN : Hid (depthB a d = false) := depthB_1 (by omega)
    go_enter Tryz.func78, Tryz.ntmps78
    go_wp2
    go_ret
    exact ⟨ret_bool HN.out.symm, rfl⟩
set_option maxHeartbeats 400000 in
theorem num_any (n : Int) (w : World) :
    Calls Tryz.prog 14 #[.int .i64 n] w fun e w' => e = .returned (.int .i64 n) ∧ w' = w := by
  go_enter Tryz.func14, Tryz.ntmps14
  go_wp2
  go_ret
  exact ⟨rfl, rfl⟩
end Go.Proofs.YtobgcaemnpkbmaaGreat
namespace Go.Proofs.YtobgcaemnpkbmaaGreat
open Go.RowKit
def AttrsAt (w : World) (ao : Option Addr) (n : Nat) (nm vl : Nat → ByteArray) : Prop :=
  ∀ j, j < n → ∃ b o, ao = some ⟨b, o, none⟩ ∧ b < w.heap.size ∧ w.cell? ⟨b, o + j * 2, none⟩ = some (.string (nm j)) ∧ w.cell? ⟨b, o + j * 2 + 1, none⟩ = some (.string (vl j)) ∧ (nm j).size ≤ maxLen ∧ (vl j).size ≤ maxLen
set_option maxHeartbeats 400000 in
theorem areAttrs_any (ao : Option Addr) (n c : Nat) (nm vl : Nat → ByteArray) (w : World) (hn : n ≤ maxLen) (hA : AttrsAt w ao n nm vl) :
    Calls Tryz.prog 98 #[.slice ao n c] w fun e w' => e = .returned (.bool (attrsB n nm vl)) ∧ Below w.heap.size w w' := by
  unfold maxLen at hn
  by_cases h5 : 5 < n
  · have HB : Hid (attrsB n nm vl = false) := attrsB_long h5
    clear hA
    go_enter Tryz.func98, Tryz.ntmps98
    go_wp2
    go_ret
    exact ⟨ret_bool HB.out.symm, Below.refl _ _⟩
  have h5 : n ≤ 5 := by omega
  have HA : Hid (AttrsAt w ao n nm vl) := hA
  clear hA
  go_enter Tryz.func98, Tryz.ntmps98
  go_wp2
  go_loopw [3, 4, 10] (fun _ _ i wr => ∃ k : Nat, k ≤ n ∧ i = .int .i64 k ∧ Hid (∀ j, j < k → attrB nm vl j = true) ∧ Below w.heap.size w wr) (fun _ _ i _ => n - (intOf i).toNat)
  case atStart => exact ⟨0, Nat.zero_le _, rfl, fun j h => absurd h (Nat.not_lt_zero _), Below.refl _ _⟩
  case round =>
    obtain ⟨k, hk, rfl, hall, hbel⟩ := hrel
    by_cases hlt : k < n
    · obtain ⟨b, o, rfl, hbw, c0, c1, s0, s1⟩ := HA.out k hlt
      have d0 := (hbel.cell (p := ⟨b, o + k * 2, none⟩) hbw).trans c0
      have d1 := (hbel.cell (p := ⟨b, o + k * 2 + 1, none⟩) hbw).trans c1
      clear c0 c1
      have fin : Below w.heap.size w ((wr.alloc (.cells #[.string (nm k), .string (vl k)] 72))) := hbel.alloc hbel.size _
      by_cases hN : nameB (nm k) = true
      · by_cases hT : textB (vl k) = true
        · by_cases h0 : k = 0
          · subst h0
            simp only [Nat.zero_mul, Nat.add_zero] at d0 d1
            have HS : Hid (∀ j, j < 0 + 1 → attrB nm vl j = true) := upto_step hall.out (attrB_first hN hT)
            have HN := hide hN
            have HT := hide hT
            clear hN hT hall
            go_wp2
            go_big_quiet (first | (go_at_call 97; exact Calls.quiet_of_same (isName_is _ true (unhide HN) s0 _)) | (go_at_call 99; exact Calls.quiet_of_same (isText_is _ true (unhide HT) s1 _)))
            go_wp2
            go_roundw
            case rel => exact ⟨1, by omega, by go_num, HS, drewN_of fin _⟩
            case measure => simp [intOf]; omega
          · obtain ⟨b', o', e', _, p0, _, _, _⟩ := HA.out (k - 1) (by omega)
            cases e'
            have hk0 : 0 < k := by omega
            have q0 : ∀ O, (wr.alloc O).cell? ⟨b, o + (k - 1) * 2, none⟩ = some (.string (nm (k - 1))) := fun O =>
              (World.cell?_alloc_lt _ _ _ (Nat.lt_of_lt_of_le hbw hbel.size)).trans ((hbel.cell (p := ⟨b, o + (k - 1) * 2, none⟩) hbw).trans p0)
            clear p0
            cases hL : Op.bytesLess (nm (k - 1)).toList (nm k).toList with
            | true =>
              have HS : Hid (∀ j, j < k + 1 → attrB nm vl j = true) := upto_step hall.out (attrB_next hN hT hL)
              have HN := hide hN
              have HT := hide hT
              clear hN hT hall
              go_wp2
              go_big_quiet (first | (go_at_call 97; exact Calls.quiet_of_same (isName_is _ true (unhide HN) s0 _)) | (go_at_call 99; exact Calls.quiet_of_same (isText_is _ true (unhide HT) s1 _)))
              go_wp2
              go_roundw
              case rel => exact ⟨k + 1, by omega, by go_num, HS, drewN_of fin _⟩
              case measure => simp [intOf]; omega
            | false =>
              have HX : Hid (attrsB n nm vl = false) := attrsB_no hlt (attrB_less (by omega) hL)
              have HN := hide hN
              have HT := hide hT
              clear hN hT hall
              go_wp2
              go_big_quiet (first | (go_at_call 97; exact Calls.quiet_of_same (isName_is _ true (unhide HN) s0 _)) | (go_at_call 99; exact Calls.quiet_of_same (isText_is _ true (unhide HT) s1 _)))
              go_wp2
              go_ret
              exact ⟨ret_bool HX.out.symm, drewN_of fin _⟩
        · have HX : Hid (attrsB n nm vl = false) := attrsB_no hlt (attrB_text (by simpa using hT))
          have HN := hide hN
          have HT : Hid (textB (vl k) = false) := hide (by simpa using hT)
          clear hN hT hall
          go_wp2
          go_big_quiet (first | (go_at_call 97; exact Calls.quiet_of_same (isName_is _ true (unhide HN) s0 _)) | (go_at_call 99; exact Calls.quiet_of_same (isText_is _ false (unhide HT) s1 _)))
          go_wp2
          go_ret
          exact ⟨ret_bool HX.out.symm, drewN_of fin _⟩
      · have HX : Hid (attrsB n nm vl = false) := attrsB_no hlt (attrB_name (by simpa using hN))
        have HN : Hid (nameB (nm k) = false) := hide (by simpa using hN)
        clear hN hall
        go_wp2
        go_quiet ((go_at_call 97; exact Calls.quiet_of_same (isName_is _ false (unhide HN) s0 _)))
        go_wp2
        go_ret
        exact ⟨ret_bool HX.out.symm, drewN_of fin _⟩
    · have hkn : Hid (k = n) := show k = n by omega
      go_wp2
      go_ret
      exact ⟨ret_bool (attrsB_yes h5 fun j hj => hall.out j (by have := hkn.out; omega)).symm, hbel⟩
end Go.Proofs.YtobgcaemnpkbmaaGreat
namespace Go.Proofs.YtobgcaemnpkbmaaGreat
open Go.RowKit
structure Nod where
  d : Int
  t : ByteArray
  k : Int
  ao : Option Addr
  an : Nat
  ac : Nat
  x : ByteArray
  nm : Nat → ByteArray
  vl : Nat → ByteArray
def Nod.val (n : Nod) : Value := .agg #[.int .i64 n.d, .string n.t, .int .i64 n.k, .slice n.ao n.an n.ac, .string n.x]
structure Nod.Ok (w : World) (n : Nod) : Prop where
  an : n.an ≤ maxLen
  t : n.t.size ≤ maxLen
  x : n.x.size ≤ maxLen
  at' : AttrsAt w n.ao n.an n.nm n.vl
theorem AttrsAt.below {w w' : World} {ao : Option Addr} {n : Nat} {nm vl : Nat → ByteArray} (h : AttrsAt w ao n nm vl) (hb : Below w.heap.size w w') : AttrsAt w' ao n nm vl := by
  intro j hj
  obtain ⟨b, o, e, hbw, c0, c1, s0, s1⟩ := h j hj
  exact ⟨b, o, e, Nat.lt_of_lt_of_le hbw hb.size, (hb.cell (p := ⟨b, _, none⟩) hbw).trans c0, (hb.cell (p := ⟨b, _, none⟩) hbw).trans c1, s0, s1⟩
theorem Nod.Ok.below {w w' : World} {n : Nod} (h : n.Ok w) (hb : Below w.heap.size w w') : n.Ok w' := ⟨h.an, h.t, h.x, h.at'.below hb⟩
def elB (n : Nod) : Bool := nameB n.t && n.x.toList.isEmpty && decide (0 ≤ n.k) && attrsB n.an n.nm n.vl
def txB (n : Nod) : Bool := n.t.toList.isEmpty && decide (n.k = 0) && decide (n.an = 0) && textB n.x
theorem areAttrs_is (n : Nod) (b : Bool) (hb : attrsB n.an n.nm n.vl = b) (w : World) (hn : n.an ≤ maxLen) (hA : AttrsAt w n.ao n.an n.nm n.vl) :
    Calls Tryz.prog 98 #[.slice n.ao n.an n.ac] w fun e w' => e = .returned (.bool b) ∧ Below w.heap.size w w' := by
  subst hb; exact areAttrs_any _ _ _ _ _ _ hn hA
set_option maxHeartbeats 400000 in
theorem isElement_any (n : Nod) (w : World) (h : n.Ok w) :
    Calls Tryz.prog 77 #[n.val] w fun e w' => e = .returned (.bool (elB n)) ∧ Below w.heap.size w w' := by
  have fin : ∀ O, Below w.heap.size w (w.alloc O) := fun O => (Below.refl _ _).alloc (Nat.le_refl _) O
  have HA : ∀ O, Hid (AttrsAt (w.alloc O) n.ao n.an n.nm n.vl) := fun O => h.at'.below (fin O)
  obtain ⟨h1, h2, h3, _⟩ := h
  unfold Nod.val
  cases hN : nameB n.t with
  | false =>
    have HX : Hid (elB n = false) := hide (by unfold elB; rw [hN]; rfl)
    have HN := hide hN
    clear hN
    go_enter Tryz.func77, Tryz.ntmps77
    go_wp2_with (go_at_call 97; refine (isName_is _ false (unhide HN) h2 _).mono ?_; rintro e w' ⟨rfl, rfl⟩)
    go_ret
    exact ⟨ret_bool HX.out.symm, fin _⟩
  | true =>
    have HN := hide hN
    cases hE : n.x.toList.isEmpty with
    | false =>
      have HX : Hid (elB n = false) := hide (by unfold elB; rw [hE]; simp)
      clear hN
      go_enter Tryz.func77, Tryz.ntmps77
      go_wp2_with (go_at_call 97; refine (isName_is _ true (unhide HN) h2 _).mono ?_; rintro e w' ⟨rfl, rfl⟩)
      go_ret
      exact ⟨ret_bool HX.out.symm, fin _⟩
    | true =>
      by_cases hK : 0 ≤ n.k
      · cases hB : attrsB n.an n.nm n.vl
        all_goals
          have HX : Hid (elB n = attrsB n.an n.nm n.vl) := hide (by unfold elB; rw [hN, hE, decide_eq_true hK]; rfl)
          have HB := hide hB
          clear hN hB
          go_enter Tryz.func77, Tryz.ntmps77
          go_wp2_with (first | (go_at_call 97; refine (isName_is _ true (unhide HN) h2 _).mono ?_; rintro e w' ⟨rfl, rfl⟩) | (go_at_call 98; refine (areAttrs_is n _ (unhide HB) _ h1 (unhide (HA _))).mono ?_; rintro e w2 ⟨rfl, hb2⟩))
          go_ret
          exact ⟨ret_bool (by rw [HX.out, HB.out]), (fin _).trans (hb2.mono (by simp))⟩
      · have HX : Hid (elB n = false) := hide (by unfold elB; rw [decide_eq_false hK]; simp)
        clear hN
        go_enter Tryz.func77, Tryz.ntmps77
        go_wp2_with (go_at_call 97; refine (isName_is _ true (unhide HN) h2 _).mono ?_; rintro e w' ⟨rfl, rfl⟩)
        go_ret
        exact ⟨ret_bool HX.out.symm, fin _⟩
set_option maxHeartbeats 400000 in
theorem isTextNode_any (n : Nod) (w : World) (h : n.Ok w) :
    Calls Tryz.prog 79 #[n.val] w fun e w' => e = .returned (.bool (txB n)) ∧ Below w.heap.size w w' := by
  have fin : ∀ O, Below w.heap.size w (w.alloc O) := fun O => (Below.refl _ _).alloc (Nat.le_refl _) O
  obtain ⟨h1, h2, h3, _⟩ := h
  unfold Nod.val
  cases hE : n.t.toList.isEmpty with
  | false =>
    have HX : Hid (txB n = false) := hide (by unfold txB; rw [hE]; simp)
    go_enter Tryz.func79, Tryz.ntmps79
    go_wp2
    go_ret
    exact ⟨ret_bool HX.out.symm, fin _⟩
  | true =>
    by_cases hK : n.k = 0
    · by_cases hZ : n.an = 0
      · have HX : Hid (txB n = textB n.x) := hide (by unfold txB; rw [hE, decide_eq_true hK, decide_eq_true hZ]; rfl)
        have kb : (n.k == 0) = true := by simp [hK]
        have zb : ((n.an : Int) == 0) = true := by simp [hZ]
        clear hK hZ
        go_enter Tryz.func79, Tryz.ntmps79
        go_wp2_with (go_at_call 99; refine (isText_any _ _ h3).mono ?_; rintro e w' ⟨rfl, rfl⟩)
        go_ret
        exact ⟨ret_bool (by rw [HX.out]), fin _⟩
      · have HX : Hid (txB n = false) := hide (by unfold txB; rw [decide_eq_false hZ]; simp)
        have kb : (n.k == 0) = true := by simp [hK]
        have zb : ((n.an : Int) == 0) = false := by simp; omega
        clear hK hZ
        go_enter Tryz.func79, Tryz.ntmps79
        go_wp2
        go_ret
        exact ⟨ret_bool HX.out.symm, fin _⟩
    · have HX : Hid (txB n = false) := hide (by unfold txB; rw [decide_eq_false hK]; simp)
      have kb : (n.k == 0) = false := by simp [hK]
      clear hK
      go_enter Tryz.func79, Tryz.ntmps79
      go_wp2
      go_ret
      exact ⟨ret_bool HX.out.symm, fin _⟩
end Go.Proofs.YtobgcaemnpkbmaaGreat
namespace Go.Proofs.YtobgcaemnpkbmaaGreat
open Go.RowKit
structure NodAt (w : World) (b p : Nat) (n : Nod) : Prop where
  c0 : w.cell? ⟨b, p, none⟩ = some (.int .i64 n.d)
  c1 : w.cell? ⟨b, p + 1, none⟩ = some (.string n.t)
  c2 : w.cell? ⟨b, p + 2, none⟩ = some (.int .i64 n.k)
  c3 : w.cell? ⟨b, p + 3, none⟩ = some (.slice n.ao n.an n.ac)
  c4 : w.cell? ⟨b, p + 4, none⟩ = some (.string n.x)
  ok : n.Ok w
structure NodesAt (w : World) (b o n : Nat) (L : Nat → Nod) : Prop where
  lt : b < w.heap.size
  node : ∀ i, i < n → NodAt w b (o + i * 5) (L i)
theorem NodAt.below {w w' : World} {b p : Nat} {n : Nod} (h : NodAt w b p n) (hw : b < w.heap.size) (hb : Below w.heap.size w w') : NodAt w' b p n :=
  ⟨(hb.cell (p := ⟨b, _, none⟩) hw).trans h.c0, (hb.cell (p := ⟨b, _, none⟩) hw).trans h.c1, (hb.cell (p := ⟨b, _, none⟩) hw).trans h.c2, (hb.cell (p := ⟨b, _, none⟩) hw).trans h.c3, (hb.cell (p := ⟨b, _, none⟩) hw).trans h.c4, h.ok.below hb⟩
theorem NodesAt.below {w w' : World} {b o n : Nat} {L : Nat → Nod} (h : NodesAt w b o n L) (hb : Below w.heap.size w w') : NodesAt w' b o n L :=
  ⟨Nat.lt_of_lt_of_le h.lt hb.size, fun i hi => (h.node i hi).below h.lt hb⟩
def goBack (L : Nat → Nod) (i : Nat) : Nat → Bool
  | 0 => false
  | j + 1 => if (L j).d < (L i).d then !(L j).t.toList.isEmpty else if (L i).k ≠ 0 ∧ (L j).d = (L i).d ∧ (L j).k = (L i).k then false else goBack L i j
theorem goBack_up {L : Nat → Nod} {i j : Nat} (h : (L j).d < (L i).d) : goBack L i (j + 1) = !(L j).t.toList.isEmpty := by
  rw [goBack, if_pos h]
theorem goBack_same {L : Nat → Nod} {i j : Nat} (h : ¬ (L j).d < (L i).d) (h1 : (L i).k ≠ 0) (h2 : (L j).d = (L i).d) (h3 : (L j).k = (L i).k) : goBack L i (j + 1) = false := by
  rw [goBack, if_neg h, if_pos ⟨h1, h2, h3⟩]
theorem goBack_on {L : Nat → Nod} {i j : Nat} (h : ¬ (L j).d < (L i).d) (h1 : ¬ ((L i).k ≠ 0 ∧ (L j).d = (L i).d ∧ (L j).k = (L i).k)) : goBack L i (j + 1) = goBack L i j := by
  rw [goBack, if_neg h, if_neg h1]
set_option maxHeartbeats 400000 in
theorem placeFits_any (b o n c : Nat) (L : Nat → Nod) (i : Nat) (w : World) (hn : n ≤ maxLen) (hi : i < n) (h : NodesAt w b o n L) :
    Calls Tryz.prog 80 #[.slice (some ⟨b, o, none⟩) n c, .int .i64 i] w fun e w' => e = .returned (.bool (goBack L i i)) ∧ Below w.heap.size w w' := by
  unfold maxLen at hn
  have H := hide h
  have hb := h.lt
  obtain ⟨c0, c1, c2, c3, c4, _⟩ := h.node i hi
  clear h
  go_enter Tryz.func80, Tryz.ntmps80
  go_wp2
  go_loopw [6] (fun j wr => ∃ m q : Nat, m ≤ i ∧ j = .int .i64 ((m : Int) - 1) ∧ Hid (goBack L i m = goBack L i i) ∧ wr = (w.alloc (.cells #[.int .i64 (L i).d, .string (L i).t, .int .i64 (L i).k, .slice (L i).ao (L i).an (L i).ac, .string (L i).x] 33)).drewN q) (fun j _ => (intOf j + 1).toNat)
  case atStart => exact ⟨i, 0, Nat.le_refl _, rfl, rfl, rfl⟩
  case round =>
    obtain ⟨m, q, hm, rfl, hg, rfl⟩ := hrel
    cases m with
    | zero =>
      go_wp2
      go_ret
      exact ⟨ret_bool hg.out, drewN_of ((Below.refl _ _).alloc (Nat.le_refl _) _) _⟩
    | succ p =>
      have e : (((p + 1 : Nat) : Int) - 1) = p := by omega
      rw [e]
      clear e
      obtain ⟨d0, d1, d2, _, _, _⟩ := H.out.node p (by omega)
      have hbn : b ≠ w.heap.size := by omega
      have fin : ∀ q, Below w.heap.size w ((w.alloc (.cells #[.int .i64 (L i).d, .string (L i).t, .int .i64 (L i).k, .slice (L i).ao (L i).an (L i).ac, .string (L i).x] 33)).drewN q) := fun q => drewN_of ((Below.refl _ _).alloc (Nat.le_refl _) _) _
      by_cases hlt : (L p).d < (L i).d
      · have HX := hide (hg.out.symm.trans (goBack_up hlt))
        clear hg
        go_wp2
        go_big_quiet (fail)
        go_wp2
        go_ret
        exact ⟨ret_bool HX.out.symm, fin _⟩
      · have hge : (L i).d ≤ (L p).d := by omega
        by_cases hk : (L i).k = 0
        · have HX := hide ((goBack_on hlt (by intro h; exact h.1 hk)).symm.trans hg.out)
          have kb : ((L i).k != 0) = false := by simp [hk]
          clear hg hk hlt
          go_wp2
          go_big_quiet (fail)
          go_wp2
          go_big_quiet (fail)
          go_wp2
          go_roundw
          case rel => exact ⟨p, _, by omega, by go_num, HX, rfl⟩
          case measure => simp [intOf]
        · have kb : ((L i).k != 0) = true := by simp [hk]
          by_cases hd : (L p).d = (L i).d
          · have db : ((L p).d == (L i).d) = true := by simp [hd]
            by_cases hkk : (L p).k = (L i).k
            · have HX := hide (hg.out.symm.trans (goBack_same hlt hk hd hkk))
              have kk : ((L p).k == (L i).k) = true := by simp [hkk]
              clear hg hk hlt hd hkk
              go_wp2
              go_big_quiet (fail)
              go_wp2
              go_big_quiet (fail)
              go_wp2
              go_ret
              exact ⟨ret_bool HX.out.symm, drewN_of (drewN_of (fin _) _) _⟩
            · have HX := hide ((goBack_on hlt (by intro h; exact hkk h.2.2)).symm.trans hg.out)
              have kk : ((L p).k == (L i).k) = false := by simp [hkk]
              clear hg hk hlt hd hkk
              go_wp2
              go_big_quiet (fail)
              go_wp2
              go_big_quiet (fail)
              go_wp2
              go_roundw
              case rel => exact ⟨p, _, by omega, by go_num, HX, rfl⟩
              case measure => simp [intOf]
          · have HX := hide ((goBack_on hlt (by intro h; exact hd h.2.1)).symm.trans hg.out)
            have db : ((L p).d == (L i).d) = false := by simp [hd]
            clear hg hk hlt hd
            go_wp2
            go_big_quiet (fail)
            go_wp2
            go_big_quiet (fail)
            go_wp2
            go_roundw
            case rel => exact ⟨p, _, by omega, by go_num, HX, rfl⟩
            case measure => simp [intOf]
end Go.Proofs.YtobgcaemnpkbmaaGreat
namespace Go.Proofs.YtobgcaemnpkbmaaGreat
open Go.RowKit
structure Ext (w : World) where
  to : World
  below : Below w.heap.size w to
theorem wp_region_ext {P : Program} {id : Nat} {Q : Exit → Act → World → Prop} {a : Act} {w : World} {l : List Oper} (hm : P.follows .mixedOrders = true) (hB : Region.lexB .any l.toArray = true)
    (h : wpQuiet P l.toArray (fun w' => ∃ g : Ext w, w' = g.to) (fun a' => ∀ w', (∃ g : Ext w, w' = g.to) → Q .normal a' w') l a) : (Code.region id l.toArray true).wp P Q a w :=
  wp_region_quiet (C := fun w' => ∃ g : Ext w, w' = g.to) hm hB ⟨⟨w.drew, (Below.refl _ _).drew⟩, rfl⟩ (by simpa using h)
theorem ext_of {P : Program} {f : FuncId} {args : Array Value} {w : World} {g : Ext w} {v : Value}
    (h : Calls P f args g.to fun e w' => e = .returned v ∧ Below g.to.heap.size g.to w') : Calls P f args g.to fun e w'' => e = .returned v ∧ ∃ g' : Ext w, w'' = g'.to :=
  h.mono fun _ w' ⟨he, hb⟩ => ⟨he, ⟨⟨w', g.below.trans (hb.mono g.below.size)⟩, rfl⟩⟩
theorem ext_of_same {P : Program} {f : FuncId} {args : Array Value} {w : World} {g : Ext w} {v : Value}
    (h : Calls P f args g.to fun e w' => e = .returned v ∧ w' = g.to) : Calls P f args g.to fun e w'' => e = .returned v ∧ ∃ g' : Ext w, w'' = g'.to :=
  h.mono fun _ _ ⟨he, hb⟩ => ⟨he, ⟨g, hb⟩⟩
theorem isElement_is (n : Nod) (r : Bool) (hr : elB n = r) (w : World) (h : n.Ok w) :
    Calls Tryz.prog 77 #[.agg #[.int .i64 n.d, .string n.t, .int .i64 n.k, .slice n.ao n.an n.ac, .string n.x]] w fun e w' => e = .returned (.bool r) ∧ Below w.heap.size w w' := by
  subst hr; exact isElement_any n w h
theorem isTextNode_is (n : Nod) (r : Bool) (hr : txB n = r) (w : World) (h : n.Ok w) :
    Calls Tryz.prog 79 #[.agg #[.int .i64 n.d, .string n.t, .int .i64 n.k, .slice n.ao n.an n.ac, .string n.x]] w fun e w' => e = .returned (.bool r) ∧ Below w.heap.size w w' := by
  subst hr; exact isTextNode_any n w h
theorem depthFits_is (a d : Int) (r : Bool) (hr : depthB a d = r) (w : World) (h0 : 0 ≤ a) (h1 : a ≤ 11) :
    Calls Tryz.prog 78 #[.int .i64 a, .int .i64 d] w fun e w' => e = .returned (.bool r) ∧ w' = w := by
  subst hr; exact depthFits_any a d w h0 h1
def mayB (L : Nat → Nod) (i : Nat) : Bool :=
  if i = 0 then decide ((L 0).d = 0) && elB (L 0) else depthB (L (i - 1)).d (L i).d && (elB (L i) || txB (L i)) && goBack L i i
set_option maxHeartbeats 400000 in
theorem mayBe_zero (b o n c : Nat) (L : Nat → Nod) (w : World) (_hn : n ≤ maxLen) (hi : 0 < n) (h : NodesAt w b o n L) :
    Calls Tryz.prog 62 #[.slice (some ⟨b, o, none⟩) n c, .int .i64 0] w fun e w' => e = .returned (.bool (mayB L 0)) ∧ Below w.heap.size w w' := by
  obtain ⟨c0, c1, c2, c3, c4, hok⟩ := h.node 0 hi
  simp only [Nat.zero_mul, Nat.add_zero] at c0 c1 c2 c3 c4
  have HO := hide hok
  clear h hok
  by_cases hd : (L 0).d = 0
  · have HX : Hid (mayB L 0 = elB (L 0)) := hide (by unfold mayB; rw [if_pos rfl, decide_eq_true hd]; rfl)
    have db : ((L 0).d == 0) = true := by simp [hd]
    clear hd
    go_enter Tryz.func62, Tryz.ntmps62
    go_wp2_with (go_at_call 77; refine (isElement_is (L 0) _ rfl _ (unhide HO)).mono ?_; rintro e w' ⟨rfl, hb2⟩)
    go_ret
    exact ⟨ret_bool HX.out.symm, hb2⟩
  · have HX : Hid (mayB L 0 = false) := hide (by unfold mayB; rw [if_pos rfl, decide_eq_false hd]; rfl)
    have db : ((L 0).d == 0) = false := by simp [hd]
    clear hd
    go_enter Tryz.func62, Tryz.ntmps62
    go_wp2
    go_ret
    exact ⟨ret_bool HX.out.symm, Below.refl _ _⟩
set_option maxHeartbeats 400000 in
theorem mayBe_next (b o n c : Nat) (L : Nat → Nod) (i : Nat) (w : World) (hn : n ≤ maxLen) (hi0 : 0 < i) (hi : i < n) (h : NodesAt w b o n L) (hd0 : 0 ≤ (L (i - 1)).d) (hd1 : (L (i - 1)).d ≤ 11) :
    Calls Tryz.prog 62 #[.slice (some ⟨b, o, none⟩) n c, .int .i64 i] w fun e w' => e = .returned (.bool (mayB L i)) ∧ Below w.heap.size w w' := by
  have HN := hide hn
  unfold maxLen at hn
  have H : Hid (∀ g : Ext w, NodesAt g.to b o n L) := hide (fun g => h.below g.below)
  have c0 : ∀ g : Ext w, g.to.cell? ⟨b, o + i * 5, none⟩ = some (.int .i64 (L i).d) := fun g => ((unhide H g).node i hi).c0
  have c1 : ∀ g : Ext w, g.to.cell? ⟨b, o + i * 5 + 1, none⟩ = some (.string (L i).t) := fun g => ((unhide H g).node i hi).c1
  have c2 : ∀ g : Ext w, g.to.cell? ⟨b, o + i * 5 + 2, none⟩ = some (.int .i64 (L i).k) := fun g => ((unhide H g).node i hi).c2
  have c3 : ∀ g : Ext w, g.to.cell? ⟨b, o + i * 5 + 3, none⟩ = some (.slice (L i).ao (L i).an (L i).ac) := fun g => ((unhide H g).node i hi).c3
  have c4 : ∀ g : Ext w, g.to.cell? ⟨b, o + i * 5 + 4, none⟩ = some (.string (L i).x) := fun g => ((unhide H g).node i hi).c4
  have a0 : ∀ g : Ext w, g.to.cell? ⟨b, o + (i - 1) * 5, none⟩ = some (.int .i64 (L (i - 1)).d) := fun g => ((unhide H g).node (i - 1) (by omega)).c0
  clear h
  have ib : ((i : Int) == 0) = false := by simp; omega
  have hne : Nonempty (Ext w) := ⟨⟨w, Below.refl _ _⟩⟩
  cases hD : depthB (L (i - 1)).d (L i).d with
  | false =>
    have HX : Hid (mayB L i = false) := hide (by unfold mayB; rw [if_neg (by omega), hD]; rfl)
    have HD := hide hD
    clear hD
    go_enter Tryz.func62, Tryz.ntmps62
    go_wp2
    refine wp_region_ext (by kernel_rfl) (by kernel_rfl) ?_
    repeat (go_big_quiet_step ((go_at_call 78; exact ext_of_same (depthFits_is _ _ _ (unhide HD) _ hd0 hd1))))
    refine wpQuiet_nil ?_
    intro _ hw'
    obtain ⟨g, hw''⟩ := hw'
    subst hw''
    go_wp2
    go_ret
    exact ⟨ret_bool HX.out.symm, g.below⟩
  | true =>
    cases hE : elB (L i) with
    | true =>
      have HX : Hid (mayB L i = goBack L i i) := hide (by unfold mayB; rw [if_neg (by omega), hD, hE]; simp)
      have HD := hide hD
      have HE := hide hE
      clear hD hE
      go_enter Tryz.func62, Tryz.ntmps62
      go_wp2
      refine wp_region_ext (by kernel_rfl) (by kernel_rfl) ?_
      repeat (go_big_quiet_step (first | (go_at_call 78; exact ext_of_same (depthFits_is _ _ _ (unhide HD) _ hd0 hd1)) | (go_at_call 77; exact ext_of (isElement_is (L i) _ (unhide HE) _ ((unhide H _).node i hi).ok)) | (go_at_call 80; exact ext_of (placeFits_any b o n c L i _ (unhide HN) hi (unhide H _)))))
      refine wpQuiet_nil ?_
      intro _ hw'
      obtain ⟨g, hw''⟩ := hw'
      subst hw''
      go_wp2
      go_ret
      exact ⟨ret_bool HX.out.symm, g.below⟩
    | false =>
      cases hT : txB (L i) with
      | true =>
        have HX : Hid (mayB L i = goBack L i i) := hide (by unfold mayB; rw [if_neg (by omega), hD, hE, hT]; simp)
        have HD := hide hD
        have HE := hide hE
        have HT := hide hT
        clear hD hE hT
        go_enter Tryz.func62, Tryz.ntmps62
        go_wp2
        refine wp_region_ext (by kernel_rfl) (by kernel_rfl) ?_
        repeat (go_big_quiet_step (first | (go_at_call 78; exact ext_of_same (depthFits_is _ _ _ (unhide HD) _ hd0 hd1)) | (go_at_call 77; exact ext_of (isElement_is (L i) _ (unhide HE) _ ((unhide H _).node i hi).ok)) | (go_at_call 79; exact ext_of (isTextNode_is (L i) _ (unhide HT) _ ((unhide H _).node i hi).ok)) | (go_at_call 80; exact ext_of (placeFits_any b o n c L i _ (unhide HN) hi (unhide H _)))))
        refine wpQuiet_nil ?_
        intro _ hw'
        obtain ⟨g, hw''⟩ := hw'
        subst hw''
        go_wp2
        go_ret
        exact ⟨ret_bool HX.out.symm, g.below⟩
      | false =>
        have HX : Hid (mayB L i = false) := hide (by unfold mayB; rw [if_neg (by omega), hE, hT]; simp)
        have HD := hide hD
        have HE := hide hE
        have HT := hide hT
        clear hD hE hT
        go_enter Tryz.func62, Tryz.ntmps62
        go_wp2
        refine wp_region_ext (by kernel_rfl) (by kernel_rfl) ?_
        repeat (go_big_quiet_step (first | (go_at_call 78; exact ext_of_same (depthFits_is _ _ _ (unhide HD) _ hd0 hd1)) | (go_at_call 77; exact ext_of (isElement_is (L i) _ (unhide HE) _ ((unhide H _).node i hi).ok)) | (go_at_call 79; exact ext_of (isTextNode_is (L i) _ (unhide HT) _ ((unhide H _).node i hi).ok))))
        refine wpQuiet_nil ?_
        intro _ hw'
        obtain ⟨g, hw''⟩ := hw'
        subst hw''
        go_wp2
        go_ret
        exact ⟨ret_bool HX.out.symm, g.below⟩
end Go.Proofs.YtobgcaemnpkbmaaGreat
