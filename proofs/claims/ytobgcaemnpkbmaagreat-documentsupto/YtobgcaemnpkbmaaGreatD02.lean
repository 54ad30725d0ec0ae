/- Chk Single Single2 Parent Tree Ref -/
import Derived.Test.YtobgcaemnpkbmaaGreatD01
namespace Go.Proofs.YtobgcaemnpkbmaaGreat
open Go.RowKit
def search (ok : Nat → Bool) (n : Nat) : Int × Int := match (List.range n).find? (fun i => !ok i) with
  | some i => (2, i)
  | none => (0, 0)
theorem search_hit {ok : Nat → Bool} {n k : Nat} (hk : k < n) (h : ∀ j, j < k → ok j = true) (hb : ok k = false) : search ok n = (2, (k : Int)) := by
  unfold search
  have : (List.range n).find? (fun i => !ok i) = some k := by
    rw [List.find?_eq_some_iff_append]
    refine ⟨by simp [hb], List.range k, (List.range (n - k - 1)).map (k + 1 + ·), ?_, ?_⟩
    · have e1 : List.range n = List.range (k + (n - k)) := by congr 1; omega
      have e2 : n - k = (n - k - 1) + 1 := by omega
      rw [e1, List.range_add, e2, List.range_succ_eq_map]
      simp [Function.comp_def, Nat.add_assoc, Nat.add_comm 1]
    · intro a ha
      simp [h a (List.mem_range.1 ha)]
  rw [this]
theorem search_all {ok : Nat → Bool} {n : Nat} (h : ∀ j, j < n → ok j = true) : search ok n = (0, 0) := by
  unfold search
  have : (List.range n).find? (fun i => !ok i) = none := by
    rw [List.find?_eq_none]
    intro a ha
    simp [h a (List.mem_range.1 ha)]
  rw [this]
def checkOut (ok : Nat → Bool) (n : Nat) : Int × Int := if n < 1 ∨ 400 < n then (1, 0) else search ok n
def ListAt (w : World) (ao : Option Addr) (n : Nat) (L : Nat → Nod) : Prop := 0 < n → ∃ b o, ao = some ⟨b, o, none⟩ ∧ NodesAt w b o n L
theorem ListAt.below {w w' : World} {ao : Option Addr} {n : Nat} {L : Nat → Nod} (h : ListAt w ao n L) (hb : Below w.heap.size w w') : ListAt w' ao n L := fun hn =>
  let ⟨b, o, e, g⟩ := h hn
  ⟨b, o, e, g.below hb⟩
theorem mayB_depth {L : Nat → Nod} {j : Nat} (h : mayB L j = true) : 0 ≤ (L j).d ∧ (L j).d ≤ 11 := by
  unfold mayB at h
  split at h
  · next e => subst e; simp at h; omega
  · simp [depthB] at h; omega
theorem ret_two {a b : Int} {p : Int × Int} (h : p = (a, b)) : Ending.returned (.tuple #[.int .i64 a, .int .i64 b]) = .returned (.tuple #[.int .i64 p.1, .int .i64 p.2]) := by rw [h]
theorem mayBe_is (b o n c : Nat) (L : Nat → Nod) (i : Nat) (r : Bool) (hr : mayB L i = r) (w : World) (hn : n ≤ maxLen) (hi : i < n) (h : NodesAt w b o n L) (hall : ∀ j, j < i → mayB L j = true) :
    Calls Tryz.prog 62 #[.slice (some ⟨b, o, none⟩) n c, .int .i64 i] w fun e w' => e = .returned (.bool r) ∧ Below w.heap.size w w' := by
  subst hr
  by_cases h0 : i = 0
  · subst h0
    exact mayBe_zero b o n c L w hn hi h
  · have hd := mayB_depth (hall (i - 1) (by omega))
    exact mayBe_next b o n c L i w hn (by omega) hi h hd.1 hd.2
set_option maxHeartbeats 400000 in
theorem treeCheck_any (ao : Option Addr) (n c : Nat) (L : Nat → Nod) (w : World) (hn : n ≤ maxLen) (h : ListAt w ao n L) :
    Calls Tryz.prog 42 #[.slice ao n c] w fun e w' => e = .returned (.tuple #[.int .i64 (checkOut (mayB L) n).1, .int .i64 (checkOut (mayB L) n).2]) ∧ Below w.heap.size w w' := by
  have HN := hide hn
  unfold maxLen at hn
  by_cases hb : n < 1 ∨ 400 < n
  · have HX : Hid (checkOut (mayB L) n = (1, 0)) := hide (by unfold checkOut; rw [if_pos hb])
    clear h
    rcases hb with hb | hb
    all_goals
      go_enter Tryz.func42, Tryz.ntmps42
      go_wp2
      go_ret2
      exact ⟨ret_two HX.out, Below.refl _ _⟩
  · have h1 : 1 ≤ n := by omega
    have h4 : n ≤ 400 := by omega
    have HX : Hid (checkOut (mayB L) n = search (mayB L) n) := hide (by unfold checkOut; rw [if_neg hb])
    clear hb
    obtain ⟨b, o, rfl, hL⟩ := h (by omega)
    have HL := hide hL
    clear h hL
    go_enter Tryz.func42, Tryz.ntmps42
    go_wp2
    go_loopw [4, 15] (fun _ i wr => ∃ k : Nat, k ≤ n ∧ i = .int .i64 k ∧ Hid (∀ j, j < k → mayB L j = true) ∧ Below w.heap.size w wr) (fun _ i _ => n - (intOf i).toNat)
    case atStart => exact ⟨0, Nat.zero_le _, rfl, hide (fun j h => absurd h (Nat.not_lt_zero _)), Below.refl _ _⟩
    case round =>
      obtain ⟨k, hk, rfl, hall, hbel⟩ := hrel
      by_cases hlt : k < n
      · have HL2 := hide (HL.out.below hbel)
        cases hM : mayB L k with
        | true =>
          have HS := hide (upto_step hall.out hM)
          have HM := hide hM
          clear hM
          go_wp2_with (go_at_call 62; refine (mayBe_is b o n c L k true (unhide HM) _ (unhide HN) hlt (unhide HL2) (unhide hall)).mono ?_; rintro e w2 ⟨rfl, hb2⟩)
          go_roundw
          case rel => exact ⟨k + 1, by omega, by go_num, HS, hbel.trans (hb2.mono hbel.size)⟩
          case measure => simp [intOf]; omega
        | false =>
          have HS := hide (HX.out.trans (search_hit hlt hall.out hM))
          have HM := hide hM
          clear hM
          go_wp2_with (go_at_call 62; refine (mayBe_is b o n c L k false (unhide HM) _ (unhide HN) hlt (unhide HL2) (unhide hall)).mono ?_; rintro e w2 ⟨rfl, hb2⟩)
          go_ret2
          exact ⟨ret_two HS.out, hbel.trans (hb2.mono hbel.size)⟩
      · have HS := hide (HX.out.trans (search_all fun j hj => hall.out j (by omega)))
        go_wp2
        go_ret2
        exact ⟨ret_two HS.out, hbel⟩
end Go.Proofs.YtobgcaemnpkbmaaGreat
namespace Go.Proofs.YtobgcaemnpkbmaaGreat
open Go.RowKit
def oneB (n : Nod) : Bool := elB n || txB n
theorem name_nonempty {s : ByteArray} (h : s.toList.isEmpty = true) : nameB s = false := by
  apply nameB_short
  have h2 : s.toList = [] := by simpa using h
  have h3 : s.toList.length = s.size := by rw [ByteArray.toList_eq, Array.length_toList]; rfl
  rw [h2] at h3
  simp at h3
  omega
theorem oneB_text {n : Nod} (h : n.t.toList.isEmpty = true) : oneB n = (decide (n.k = 0) && decide (n.an = 0) && textB n.x) := by
  unfold oneB elB txB; rw [name_nonempty h, h]; simp
theorem oneB_elem {n : Nod} (h : n.t.toList.isEmpty = false) : oneB n = (nameB n.t && n.x.toList.isEmpty && decide (0 ≤ n.k) && attrsB n.an n.nm n.vl) := by
  unfold oneB elB txB; rw [h]; simp
set_option maxHeartbeats 400000 in
theorem single_text (n : Nod) (w : World) (h : n.Ok w) (hE : n.t.toList.isEmpty = true) :
    Calls Tryz.prog 23 #[n.val] w fun e w' => e = .returned (.bool (oneB n)) ∧ Below w.heap.size w w' := by
  have fin : ∀ O, Below w.heap.size w (w.alloc O) := fun O => (Below.refl _ _).alloc (Nat.le_refl _) O
  have HX := hide (oneB_text hE)
  obtain ⟨h1, h2, h3, _⟩ := h
  unfold maxLen at h3
  unfold Nod.val
  by_cases hK : n.k = 0
  · have kb : (n.k == 0) = true := by simp [hK]
    by_cases hZ : n.an = 0
    · have zb : ((n.an : Int) == 0) = true := by simp [hZ]
      have HY := hide (show oneB n = textB n.x by rw [HX.out, decide_eq_true hK, decide_eq_true hZ]; rfl)
      clear hK hZ
      go_enter Tryz.func23, Tryz.ntmps23
      go_wp2
      go_ret
      exact ⟨ret_bool (by rw [HY.out]; unfold textB; simp; omega), fin _⟩
    · have zb : ((n.an : Int) == 0) = false := by simp; omega
      have HY := hide (show oneB n = false by rw [HX.out, decide_eq_false hZ]; simp)
      clear hK hZ
      go_enter Tryz.func23, Tryz.ntmps23
      go_wp2
      go_ret
      exact ⟨ret_bool HY.out.symm, fin _⟩
  · have kb : (n.k == 0) = false := by simp [hK]
    have HY := hide (show oneB n = false by rw [HX.out, decide_eq_false hK]; simp)
    clear hK
    go_enter Tryz.func23, Tryz.ntmps23
    go_wp2
    go_ret
    exact ⟨ret_bool HY.out.symm, fin _⟩
set_option maxHeartbeats 400000 in
theorem single_bad (n : Nod) (w : World) (h : n.Ok w) (hE : n.t.toList.isEmpty = false) (hB : nameB n.t = false ∨ n.k < 0 ∨ n.x.toList.isEmpty = false ∨ 5 < n.an) :
    Calls Tryz.prog 23 #[n.val] w fun e w' => e = .returned (.bool false) ∧ Below w.heap.size w w' := by
  have fin : ∀ O, Below w.heap.size w (w.alloc O) := fun O => (Below.refl _ _).alloc (Nat.le_refl _) O
  obtain ⟨h1, h2, h3, _⟩ := h
  unfold maxLen at h1
  unfold Nod.val
  cases hN : nameB n.t with
  | false =>
    have HN := hide hN
    clear hN hB
    go_enter Tryz.func23, Tryz.ntmps23
    go_wp2_with (go_at_call 45; refine (name_is _ false (unhide HN) h2 _).mono ?_; rintro e w' ⟨rfl, rfl⟩)
    go_ret
    exact ⟨rfl, fin _⟩
  | true =>
    have HN := hide hN
    rw [hN] at hB
    have hB : n.k < 0 ∨ n.x.toList.isEmpty = false ∨ 5 < n.an := by rcases hB with h | h; exact absurd h (by simp); exact h
    clear hN
    by_cases hK : n.k < 0
    · clear hB
      go_enter Tryz.func23, Tryz.ntmps23
      go_wp2_with (go_at_call 45; refine (name_is _ true (unhide HN) h2 _).mono ?_; rintro e w' ⟨rfl, rfl⟩)
      go_ret
      exact ⟨rfl, fin _⟩
    · have hK' : 0 ≤ n.k := by omega
      cases hX : n.x.toList.isEmpty with
      | false =>
        clear hB hK
        go_enter Tryz.func23, Tryz.ntmps23
        go_wp2_with (go_at_call 45; refine (name_is _ true (unhide HN) h2 _).mono ?_; rintro e w' ⟨rfl, rfl⟩)
        go_ret
        exact ⟨rfl, fin _⟩
      | true =>
        have h5 : 5 < n.an := by rcases hB with h | h | h; exact absurd h hK; rw [hX] at h; cases h; exact h
        clear hB hK
        go_enter Tryz.func23, Tryz.ntmps23
        go_wp2_with (go_at_call 45; refine (name_is _ true (unhide HN) h2 _).mono ?_; rintro e w' ⟨rfl, rfl⟩)
        go_ret
        exact ⟨rfl, fin _⟩
end Go.Proofs.YtobgcaemnpkbmaaGreat
namespace Go.Proofs.YtobgcaemnpkbmaaGreat
open Go.RowKit
theorem textB_yes {s : ByteArray} (h : textB s = true) : s.size ≤ 20 := by unfold textB at h; simpa using h
theorem textB_not {s : ByteArray} (h : textB s = false) : 20 < s.size := by unfold textB at h; simpa using h
set_option maxHeartbeats 1000000 in
theorem single_good' (d : Int) (t : ByteArray) (key : Int) (ao : Option Addr) (an ac : Nat) (x : ByteArray) (nm vl : Nat → ByteArray) (w : World) (h1 : an ≤ maxLen) (h2 : t.size ≤ maxLen) (hA : AttrsAt w ao an nm vl) (hE : t.toList.isEmpty = false) (hN : nameB t = true) (hK : 0 ≤ key) (hX : x.toList.isEmpty = true) (h5 : an ≤ 5) :
    Calls Tryz.prog 23 #[.agg #[.int .i64 d, .string t, .int .i64 key, .slice ao an ac, .string x]] w fun e w' => e = .returned (.bool (attrsB an nm vl)) ∧ Below w.heap.size w w' := by
  have fin : ∀ q, Below w.heap.size w ((w.alloc (.cells #[.int .i64 d, .string t, .int .i64 key, .slice ao an ac, .string x] 33)).drewN q) := fun q => drewN_of ((Below.refl _ _).alloc (Nat.le_refl _) _) q
  have HA := hide hA
  clear hA
  have HN := hide hN
  clear hN
  unfold maxLen at h1
  go_enter Tryz.func23, Tryz.ntmps23
  go_wp2_with (go_at_call 45; refine (name_is _ true (unhide HN) h2 _).mono ?_; rintro e w' ⟨rfl, rfl⟩)
  go_loopw [4, 5] (fun i _ wr => ∃ k q : Nat, k ≤ an ∧ i = .int .i64 k ∧ Hid (∀ j, j < k → attrB nm vl j = true) ∧ wr = (w.alloc (.cells #[.int .i64 d, .string t, .int .i64 key, .slice ao an ac, .string x] 33)).drewN q) (fun i _ _ => an - (intOf i).toNat)
  case atStart => exact ⟨0, 0, Nat.zero_le _, rfl, hide (fun j h => absurd h (Nat.not_lt_zero _)), rfl⟩
  case round =>
    obtain ⟨k, q, hk, rfl, hall, rfl⟩ := hrel
    by_cases hlt : k < an
    · obtain ⟨b, o, rfl, hbw, c0, c1, s0, s1⟩ := HA.out k hlt
      have hbn : b ≠ w.heap.size := by omega
      have HS1 := hide s1
      unfold maxLen at s1
      cases hN : nameB (nm k) with
      | false =>
        have HX := hide (attrsB_no hlt (attrB_name hN) : attrsB an nm vl = false)
        have HM := hide hN
        clear hN hall
        go_wp2_with (go_at_call 45; refine (name_is _ false (unhide HM) s0 _).mono ?_; rintro e w' ⟨rfl, rfl⟩)
        go_big_quiet (fail)
        go_wp2
        go_ret
        exact ⟨ret_bool HX.out.symm, drewN_of (fin _) _⟩
      | true =>
        have HM := hide hN
        cases hT : textB (vl k) with
        | false =>
          have HX := hide (attrsB_no hlt (attrB_text hT) : attrsB an nm vl = false)
          have ht := textB_not hT
          have tb : decide ((20 : Int) < ((vl k).size : Int)) = true := by simp; omega
          clear hN hall hT
          go_wp2_with (go_at_call 45; refine (name_is _ true (unhide HM) s0 _).mono ?_; rintro e w' ⟨rfl, rfl⟩)
          go_big_quiet (fail)
          go_wp2
          go_ret
          exact ⟨ret_bool HX.out.symm, drewN_of (fin _) _⟩
        | true =>
          have ht := textB_yes hT
          have tb : decide ((20 : Int) < ((vl k).size : Int)) = false := by simp; omega
          by_cases h0 : k = 0
          · subst h0
            simp only [Nat.zero_mul, Nat.add_zero] at c0 c1
            have HS := hide (upto_step hall.out (attrB_first hN hT))
            clear hN hT hall
            go_wp2_with (go_at_call 45; refine (name_is _ true (unhide HM) s0 _).mono ?_; rintro e w' ⟨rfl, rfl⟩)
            go_big_quiet (fail)
            go_wp2
            go_roundw
            case rel => exact ⟨1, _, by omega, by go_num, HS, rfl⟩
            case measure => simp [intOf]; omega
          · obtain ⟨b', o', e', _, p0, _, _, _⟩ := HA.out (k - 1) (by omega)
            cases e'
            have hk0 : 0 < k := by omega
            cases hL : Op.bytesLess (nm (k - 1)).toList (nm k).toList with
            | true =>
              have HS := hide (upto_step hall.out (attrB_next hN hT hL))
              clear hN hT hall
              go_wp2_with (go_at_call 45; refine (name_is _ true (unhide HM) s0 _).mono ?_; rintro e w' ⟨rfl, rfl⟩)
              go_big_quiet (fail)
              go_wp2
              go_roundw
              case rel => exact ⟨k + 1, _, by omega, by go_num, HS, rfl⟩
              case measure => simp [intOf]; omega
            | false =>
              have HX := hide (attrsB_no hlt (attrB_less (vl := vl) (by omega) hL))
              clear hN hT hall
              go_wp2_with (go_at_call 45; refine (name_is _ true (unhide HM) s0 _).mono ?_; rintro e w' ⟨rfl, rfl⟩)
              go_big_quiet (fail)
              go_wp2
              go_ret
              exact ⟨ret_bool HX.out.symm, drewN_of (fin _) _⟩
    · have HS := hide (attrsB_yes h5 fun j hj => hall.out j (by omega))
      go_wp2
      go_ret
      exact ⟨ret_bool HS.out.symm, fin _⟩
theorem single_good (n : Nod) (w : World) (h : n.Ok w) (hE : n.t.toList.isEmpty = false) (hN : nameB n.t = true) (hK : 0 ≤ n.k) (hX : n.x.toList.isEmpty = true) (h5 : n.an ≤ 5) :
    Calls Tryz.prog 23 #[n.val] w fun e w' => e = .returned (.bool (attrsB n.an n.nm n.vl)) ∧ Below w.heap.size w w' :=
  single_good' n.d n.t n.k n.ao n.an n.ac n.x n.nm n.vl w h.an h.t h.at' hE hN hK hX h5
theorem single_any (n : Nod) (w : World) (h : n.Ok w) :
    Calls Tryz.prog 23 #[n.val] w fun e w' => e = .returned (.bool (oneB n)) ∧ Below w.heap.size w w' := by
  cases hE : n.t.toList.isEmpty with
  | true => exact single_text n w h hE
  | false =>
    by_cases hB : nameB n.t = false ∨ n.k < 0 ∨ n.x.toList.isEmpty = false ∨ 5 < n.an
    · have e : oneB n = false := by
        rw [oneB_elem hE]
        rcases hB with h | h | h | h
        · rw [h]; rfl
        · rw [decide_eq_false (p := 0 ≤ n.k) (by omega)]; simp
        · rw [h]; simp
        · rw [attrsB_long h]; simp
      rw [e]
      exact single_bad n w h hE hB
    · have h1 : nameB n.t = true := by cases hN : nameB n.t with | true => rfl | false => exact absurd (.inl hN) hB
      have h2 : 0 ≤ n.k := by by_cases h : n.k < 0; exact absurd (.inr (.inl h)) hB; omega
      have h3 : n.x.toList.isEmpty = true := by cases hN : n.x.toList.isEmpty with | true => rfl | false => exact absurd (.inr (.inr (.inl hN))) hB
      have h4 : n.an ≤ 5 := by by_cases h : 5 < n.an; exact absurd (.inr (.inr (.inr h))) hB; omega
      have e : oneB n = attrsB n.an n.nm n.vl := by rw [oneB_elem hE, h1, h3, decide_eq_true h2]; rfl
      rw [e]
      exact single_good n w h hE h1 h2 h3 h4
end Go.Proofs.YtobgcaemnpkbmaaGreat
namespace Go.Proofs.YtobgcaemnpkbmaaGreat
open Go.RowKit
def parentOf (L : Nat → Nod) (i : Nat) : Nat → Int
  | 0 => -1
  | j + 1 => if (L j).d = (L i).d - 1 then (j : Int) else parentOf L i j
theorem ret_int {a b : Int} (h : a = b) : Ending.returned (.int .i64 a) = .returned (.int .i64 b) := by rw [h]
set_option maxHeartbeats 400000 in
theorem parent_any (b o n c : Nat) (L : Nat → Nod) (i : Nat) (w : World) (hn : n ≤ maxLen) (hi : i < n) (h : NodesAt w b o n L) (hd1 : 1 ≤ (L i).d) (hd2 : (L i).d ≤ 11) :
    Calls Tryz.prog 24 #[.slice (some ⟨b, o, none⟩) n c, .int .i64 i] w fun e w' => e = .returned (.int .i64 (parentOf L i i)) ∧ Below w.heap.size w w' := by
  unfold maxLen at hn
  have H := hide h
  have c0 := (h.node i hi).c0
  clear h
  go_enter Tryz.func24, Tryz.ntmps24
  go_wp2
  go_loopw [5] (fun j wr => ∃ m q : Nat, m ≤ i ∧ j = .int .i64 ((m : Int) - 1) ∧ Hid (parentOf L i m = parentOf L i i) ∧ wr = w.drewN q) (fun j _ => (intOf j + 1).toNat)
  case atStart => exact ⟨i, 0, Nat.le_refl _, rfl, rfl, rfl⟩
  case round =>
    obtain ⟨m, q, hm, rfl, hg, rfl⟩ := hrel
    cases m with
    | zero =>
      go_wp2
      go_ret
      exact ⟨ret_int hg.out, drewN_of (Below.refl _ _) _⟩
    | succ p =>
      have e : (((p + 1 : Nat) : Int) - 1) = p := by omega
      rw [e]
      clear e
      have d0 := (H.out.node p (by omega)).c0
      by_cases hlt : (L p).d = (L i).d - 1
      · have HX := hide (show parentOf L i i = p by rw [← hg.out, parentOf, if_pos hlt])
        have db : ((L p).d == (L i).d - 1) = true := by simp [hlt]
        clear hg hlt
        go_wp2
        go_big_quiet (fail)
        go_wp2
        go_ret
        exact ⟨ret_int HX.out.symm, drewN_of (drewN_of (Below.refl _ _) _) _⟩
      · have HX := hide (show parentOf L i p = parentOf L i i by rw [← hg.out, parentOf, if_neg hlt])
        have db : ((L p).d == (L i).d - 1) = false := by simp [hlt]
        clear hg hlt
        go_wp2
        go_big_quiet (fail)
        go_wp2
        go_roundw
        case rel => exact ⟨p, _, by omega, by go_num, HX, rfl⟩
        case measure => simp [intOf]
end Go.Proofs.YtobgcaemnpkbmaaGreat
namespace Go.Proofs.YtobgcaemnpkbmaaGreat
open Go.RowKit
theorem last_below (f : Nat → Int) (x : Int) : ∀ i, 0 < i → f 0 < x → ∃ p, p < i ∧ f p < x ∧ ∀ j, p < j → j < i → x ≤ f j := by
  intro i
  induction i with
  | zero => intro h; exact absurd h (Nat.lt_irrefl _)
  | succ i ih =>
    intro _ h0
    by_cases hi : f i < x
    · exact ⟨i, Nat.lt_succ_self _, hi, fun j h1 h2 => by omega⟩
    · by_cases hz : i = 0
      · subst hz; exact absurd h0 hi
      · obtain ⟨p, h1, h2, h3⟩ := ih (by omega) h0
        refine ⟨p, by omega, h2, fun j g1 g2 => ?_⟩
        by_cases e : j = i
        · subst e; omega
        · exact h3 j g1 (by omega)
theorem mayB_zero {L : Nat → Nod} (h : mayB L 0 = true) : (L 0).d = 0 := by
  unfold mayB at h; rw [if_pos rfl] at h; simp at h; exact h.1
theorem mayB_step {L : Nat → Nod} {j : Nat} (h : mayB L (j + 1) = true) : (L (j + 1)).d ≤ (L j).d + 1 := by
  unfold mayB at h; rw [if_neg (by omega)] at h; simp [depthB] at h; omega
structure Par (L : Nat → Nod) (i p : Nat) : Prop where
  lt : p < i
  up : (L p).d = (L i).d - 1
  deep : ∀ j, p < j → j < i → (L i).d ≤ (L j).d
theorem par_of {L : Nat → Nod} {i : Nat} (h0 : 0 < i) (hall : ∀ j, j < i → mayB L j = true) (h1 : 1 ≤ (L i).d) (h2 : (L i).d ≤ (L (i - 1)).d + 1) : ∃ p, Par L i p := by
  obtain ⟨p, g1, g2, g3⟩ := last_below (fun j => (L j).d) (L i).d i h0 (by show (L 0).d < _; have := mayB_zero (hall 0 h0); omega)
  refine ⟨p, g1, ?_, g3⟩
  have g2 : (L p).d < (L i).d := g2
  by_cases e : p + 1 = i
  · have : i - 1 = p := by omega
    rw [this] at h2; omega
  · have a := mayB_step (hall (p + 1) (by omega))
    have b := g3 (p + 1) (by omega) (by omega)
    have b : (L i).d ≤ (L (p + 1)).d := b
    omega
theorem Par.parent {L : Nat → Nod} {i p : Nat} (h : Par L i p) : parentOf L i i = p := by
  have aux : ∀ m, p < m → m ≤ i → parentOf L i m = p := by
    intro m
    induction m with
    | zero => intro h; omega
    | succ m ih =>
      intro g1 g2
      by_cases e : m = p
      · subst e; rw [parentOf, if_pos h.up]
      · have := h.deep m (by omega) (by omega)
        rw [parentOf, if_neg (by omega)]
        exact ih (by omega) (by omega)
  exact aux i h.lt (Nat.le_refl _)
theorem Par.back {L : Nat → Nod} {i p : Nat} (h : Par L i p) : ∀ m, p < m → m ≤ i → (∀ j, m ≤ j → j < i → ¬ ((L i).k ≠ 0 ∧ (L j).d = (L i).d ∧ (L j).k = (L i).k)) → goBack L i i = goBack L i m := by
  intro m h1 h2 h3
  have aux : ∀ t, m ≤ t → t ≤ i → goBack L i t = goBack L i m := by
    intro t
    induction t with
    | zero => intro a b; omega
    | succ t ih =>
      intro a b
      by_cases e : m = t + 1
      · rw [e]
      · have := h.deep t (by omega) (by omega)
        rw [goBack_on (by omega) (h3 t (by omega) (by omega))]
        exact ih (by omega) (by omega)
  exact aux i h2 (Nat.le_refl _)
theorem Par.good {L : Nat → Nod} {i p : Nat} (h : Par L i p) (h3 : ∀ j, p < j → j < i → ¬ ((L i).k ≠ 0 ∧ (L j).d = (L i).d ∧ (L j).k = (L i).k)) : goBack L i i = !(L p).t.toList.isEmpty := by
  rw [h.back (p + 1) (by omega) h.lt (fun j a b => h3 j (by omega) b), goBack_up]
  have := h.up; omega
theorem Par.bad {L : Nat → Nod} {i p j : Nat} (h : Par L i p) (h1 : p < j) (h2 : j < i) (h3 : (L i).k ≠ 0 ∧ (L j).d = (L i).d ∧ (L j).k = (L i).k) : goBack L i i = false := by
  have aux : ∀ t, j < t → t ≤ i → goBack L i t = false := by
    intro t
    induction t with
    | zero => intro a; omega
    | succ t ih =>
      intro a b
      have hd := h.deep t (by omega) (by omega)
      by_cases c : (L i).k ≠ 0 ∧ (L t).d = (L i).d ∧ (L t).k = (L i).k
      · exact goBack_same (by omega) c.1 c.2.1 c.2.2
      · rw [goBack_on (by omega) c]
        by_cases e : t = j
        · subst e; exact absurd h3 c
        · exact ih (by omega) (by omega)
  exact aux i h2 (Nat.le_refl _)
theorem Par.text {L : Nat → Nod} {i p : Nat} (h : Par L i p) (ht : (L p).t.toList.isEmpty = true) : goBack L i i = false := by
  by_cases c : ∃ j, p < j ∧ j < i ∧ ((L i).k ≠ 0 ∧ (L j).d = (L i).d ∧ (L j).k = (L i).k)
  · obtain ⟨j, h1, h2, h3⟩ := c
    exact h.bad h1 h2 h3
  · rw [h.good (fun j a b d => c ⟨j, a, b, d⟩), ht]; rfl
theorem mayB_first {L : Nat → Nod} : mayB L 0 = (oneB (L 0) && decide ((L 0).d = 0) && !(L 0).t.toList.isEmpty) := by
  unfold mayB
  rw [if_pos rfl]
  cases ht : (L 0).t.toList.isEmpty with
  | true => unfold elB; rw [name_nonempty ht]; simp
  | false => unfold oneB txB; rw [ht]; simp [Bool.and_comm]
theorem mayB_later {L : Nat → Nod} {i : Nat} (h : 0 < i) : mayB L i = (oneB (L i) && depthB (L (i - 1)).d (L i).d && goBack L i i) := by
  unfold mayB oneB
  rw [if_neg (by omega)]
  rw [Bool.and_comm (depthB _ _)]
theorem oneB_key {n : Nod} (h : oneB n = true) : 0 ≤ n.k := by
  unfold oneB elB txB at h
  simp at h
  rcases h with h | h
  · exact h.1.2
  · omega
end Go.Proofs.YtobgcaemnpkbmaaGreat
namespace Go.Proofs.YtobgcaemnpkbmaaGreat
open Go.RowKit
theorem single_is (n : Nod) (r : Bool) (hr : oneB n = r) (w : World) (h : n.Ok w) :
    Calls Tryz.prog 23 #[.agg #[.int .i64 n.d, .string n.t, .int .i64 n.k, .slice n.ao n.an n.ac, .string n.x]] w fun e w' => e = .returned (.bool r) ∧ Below w.heap.size w w' := by
  subst hr; exact single_any n w h
theorem parent_is (b o n c : Nat) (L : Nat → Nod) (i p : Nat) (hp : Par L i p) (w : World) (hn : n ≤ maxLen) (hi : i < n) (h : NodesAt w b o n L) (hd1 : 1 ≤ (L i).d) (hd2 : (L i).d ≤ 11) :
    Calls Tryz.prog 24 #[.slice (some ⟨b, o, none⟩) n c, .int .i64 i] w fun e w' => e = .returned (.int .i64 p) ∧ Below w.heap.size w w' := by
  rw [← hp.parent]; exact parent_any b o n c L i w hn hi h hd1 hd2
structure BoxAt (w : World) (b : Nat) (n : Nod) : Prop where
  lt : b < w.heap.size
  c0 : w.cell? ⟨b, 0, none⟩ = some (.int .i64 n.d)
  c1 : w.cell? ⟨b, 1, none⟩ = some (.string n.t)
  c2 : w.cell? ⟨b, 2, none⟩ = some (.int .i64 n.k)
theorem BoxAt.below {w w' : World} {b : Nat} {n : Nod} (h : BoxAt w b n) (hb : Below w.heap.size w w') : BoxAt w' b n :=
  ⟨Nat.lt_of_lt_of_le h.lt hb.size, (hb.cell (p := ⟨b, _, none⟩) h.lt).trans h.c0, (hb.cell (p := ⟨b, _, none⟩) h.lt).trans h.c1, (hb.cell (p := ⟨b, _, none⟩) h.lt).trans h.c2⟩
theorem boxAt_new (w : World) (n : Nod) (t : TypeId) : BoxAt (w.alloc (.cells #[.int .i64 n.d, .string n.t, .int .i64 n.k, .slice n.ao n.an n.ac, .string n.x] t)) w.heap.size n :=
  ⟨by simp, by simp [go_sem], by simp [go_sem], by simp [go_sem]⟩
theorem not_step {Q : Nat → Prop} {p m : Nat} (h : ∀ j, p < j → j < m → ¬ Q j) (hm : ¬ Q m) : ∀ j, p < j → j < m + 1 → ¬ Q j := by
  intro j h1 h2
  by_cases e : j = m
  · subst e; exact hm
  · exact h j h1 (by omega)
set_option maxRecDepth 100000 in
set_option maxHeartbeats 1000000 in
theorem refCheck_any (ao : Option Addr) (n c : Nat) (L : Nat → Nod) (w : World) (hn : n ≤ maxLen) (h : ListAt w ao n L) :
    Calls Tryz.prog 13 #[.slice ao n c] w fun e w' => e = .returned (.tuple #[.int .i64 (checkOut (mayB L) n).1, .int .i64 (checkOut (mayB L) n).2]) ∧ Below w.heap.size w w' := by
  have HN := hide hn
  unfold maxLen at hn
  by_cases hb : n < 1 ∨ 400 < n
  · have HX : Hid (checkOut (mayB L) n = (1, 0)) := hide (by unfold checkOut; rw [if_pos hb])
    clear h
    rcases hb with hb | hb
    all_goals
      go_enter Tryz.func13, Tryz.ntmps13
      go_wp2
      go_ret2
      exact ⟨ret_two HX.out, Below.refl _ _⟩
  · have h1 : 1 ≤ n := by omega
    have h4 : n ≤ 400 := by omega
    have HX : Hid (checkOut (mayB L) n = search (mayB L) n) := hide (by unfold checkOut; rw [if_neg hb])
    clear hb
    obtain ⟨b, o, rfl, hL⟩ := h (by omega)
    have HL := hide hL
    clear h hL
    go_enter Tryz.func13, Tryz.ntmps13
    go_wp2
    go_loopw [4, 5, 6, 7, 8] (fun i _ _ _ _ wr => ∃ k : Nat, k ≤ n ∧ i = .int .i64 k ∧ Hid (∀ j, j < k → mayB L j = true) ∧ Below w.heap.size w wr) (fun i _ _ _ _ _ => n - (intOf i).toNat)
    case atStart => exact ⟨0, Nat.zero_le _, rfl, hide (fun j h => absurd h (Nat.not_lt_zero _)), Below.refl _ _⟩
    case round =>
      obtain ⟨k, hk, rfl, hall, hbel⟩ := hrel
      by_cases hlt : k < n
      · have HL1 := hide (HL.out.below hbel)
        obtain ⟨c0, c1, c2, c3, c4, hok⟩ := HL1.out.node k hlt
        have HO := hide hok
        clear hok
        have hal : Below wr.heap.size wr (wr.alloc (.cells #[.int .i64 (L k).d, .string (L k).t, .int .i64 (L k).k, .slice (L k).ao (L k).an (L k).ac, .string (L k).x] 33)) := (Below.refl _ _).alloc (Nat.le_refl _) _
        have hbox := boxAt_new wr (L k) 33
        by_cases h0 : k = 0
        · subst h0
          simp only [Nat.zero_mul, Nat.add_zero] at c0 c1 c2 c3 c4
          cases hM : mayB L 0 with
          | true =>
            have hM' := hM
            rw [mayB_first] at hM'
            have hO : oneB (L 0) = true := by simp at hM'; exact hM'.1.1
            have hd : ((L 0).d != 0) = false := by simp at hM'; simp [hM'.1.2]
            have ht : (L 0).t.toList.isEmpty = false := by simp at hM'; simpa using hM'.2
            have HS := hide (upto_step hall.out hM)
            have H1 := hide hO
            clear hM hM' hO
            go_wp2_with fail
            refine (single_is (L 0) true (unhide H1) _ ((unhide HO).below hal)).mono ?_
            rintro e w2 ⟨rfl, hb2⟩
            obtain ⟨_, x0, x1, x2⟩ := hbox.below hb2
            go_wp2
            go_roundw
            case rel => exact ⟨1, by omega, by go_num, HS, hbel.trans ((hal.trans (hb2.mono (by simp))).mono hbel.size)⟩
            case measure => simp [intOf]; omega
          | false =>
            have HS := hide (HX.out.trans (search_hit hlt hall.out hM))
            rw [mayB_first] at hM
            cases hO : oneB (L 0) with
            | false =>
              have H1 := hide hO
              clear hM hO
              go_wp2_with fail
              refine (single_is (L 0) false (unhide H1) _ ((unhide HO).below hal)).mono ?_
              rintro e w2 ⟨rfl, hb2⟩
              obtain ⟨_, x0, x1, x2⟩ := hbox.below hb2
              go_wp2
              go_ret2
              exact ⟨ret_two HS.out, hbel.trans ((hal.trans (hb2.mono (by simp))).mono hbel.size)⟩
            | true =>
              have H1 := hide hO
              by_cases hd0 : (L 0).d = 0
              · have hd : ((L 0).d != 0) = false := by simp [hd0]
                have ht : (L 0).t.toList.isEmpty = true := by rw [hO, decide_eq_true hd0] at hM; simpa using hM
                clear hM hO hd0
                go_wp2_with fail
                refine (single_is (L 0) true (unhide H1) _ ((unhide HO).below hal)).mono ?_
                rintro e w2 ⟨rfl, hb2⟩
                obtain ⟨_, x0, x1, x2⟩ := hbox.below hb2
                go_wp2
                go_ret2
                exact ⟨ret_two HS.out, hbel.trans ((hal.trans (hb2.mono (by simp))).mono hbel.size)⟩
              · have hd : ((L 0).d != 0) = true := by simp [hd0]
                clear hM hO hd0
                go_wp2_with fail
                refine (single_is (L 0) true (unhide H1) _ ((unhide HO).below hal)).mono ?_
                rintro e w2 ⟨rfl, hb2⟩
                obtain ⟨_, x0, x1, x2⟩ := hbox.below hb2
                go_wp2
                go_ret2
                exact ⟨ret_two HS.out, hbel.trans ((hal.trans (hb2.mono (by simp))).mono hbel.size)⟩
        · have ib : ((k : Int) == 0) = false := by simp; omega
          have hdp := mayB_depth (hall.out (k - 1) (by omega))
          obtain ⟨hdp0, hdp1⟩ := hdp
          cases hO : oneB (L k) with
          | false =>
            have HS := hide (HX.out.trans (search_hit hlt hall.out (by rw [mayB_later (by omega), hO]; rfl)))
            have H1 := hide hO
            clear hO
            go_wp2_with fail
            refine (single_is (L k) false (unhide H1) _ ((unhide HO).below hal)).mono ?_
            rintro e w2 ⟨rfl, hb2⟩
            obtain ⟨_, x0, x1, x2⟩ := hbox.below hb2
            go_wp2
            go_big_quiet (fail)
            go_wp2
            go_ret2
            exact ⟨ret_two HS.out, drewN_of (hbel.trans ((hal.trans (hb2.mono (by simp))).mono hbel.size)) _⟩
          | true =>
            have H1 := hide hO
            cases hD : depthB (L (k - 1)).d (L k).d with
            | false =>
              have HS := hide (HX.out.trans (search_hit hlt hall.out (by rw [mayB_later (by omega), hD]; simp)))
              clear hO
              go_wp2_with fail
              refine (single_is (L k) true (unhide H1) _ ((unhide HO).below hal)).mono ?_
              rintro e w2 ⟨rfl, hb2⟩
              have hw2 := hal.trans (hb2.mono (by simp))
              obtain ⟨_, x0, x1, x2⟩ := hbox.below hb2
              have a0 := ((HL1.out.below hw2).node (k - 1) (by omega)).c0
              by_cases g1 : (L k).d < 1
              · clear hD
                go_wp2
                go_big_quiet (fail)
                go_wp2
                go_ret2
                exact ⟨ret_two HS.out, drewN_of (hbel.trans (hw2.mono hbel.size)) _⟩
              · have g1b : decide ((L k).d < 1) = false := by simpa using g1
                by_cases g2 : (L (k - 1)).d + 1 < (L k).d
                · clear hD g1
                  go_wp2
                  go_big_quiet (fail)
                  go_wp2
                  go_ret2
                  exact ⟨ret_two HS.out, drewN_of (hbel.trans (hw2.mono hbel.size)) _⟩
                · have g2b : decide ((L (k - 1)).d + 1 < (L k).d) = false := by simpa using g2
                  have g3 : 12 ≤ (L k).d := by
                    apply Classical.byContradiction
                    intro hc
                    rw [depthB_4 (by omega) (by omega) (by omega)] at hD
                    cases hD
                  clear hD g1 g2
                  go_wp2
                  go_big_quiet (fail)
                  go_wp2
                  go_ret2
                  exact ⟨ret_two HS.out, drewN_of (hbel.trans (hw2.mono hbel.size)) _⟩
            | true =>
              have hd1 : 1 ≤ (L k).d := by unfold depthB at hD; simp at hD; omega
              have hd2 : (L k).d ≤ (L (k - 1)).d + 1 := by unfold depthB at hD; simp at hD; omega
              have hd3 : (L k).d ≤ 11 := by unfold depthB at hD; simp at hD; omega
              obtain ⟨p, hp⟩ := par_of (by omega) hall.out hd1 hd2
              have hpk := hp.lt
              have HP := hide hp
              have HM := hide (show mayB L k = goBack L k k by rw [mayB_later (by omega), hO, hD]; rfl)
              have hkey := oneB_key hO
              have g1b : decide ((L k).d < 1) = false := by simp; omega
              have g2b : decide ((L (k - 1)).d + 1 < (L k).d) = false := by simp; omega
              have g3b : decide ((12 : Int) ≤ (L k).d) = false := by simp; omega
              clear hO hD hp
              go_wp2_with fail
              refine (single_is (L k) true (unhide H1) _ ((unhide HO).below hal)).mono ?_
              rintro e w2 ⟨rfl, hb2⟩
              have hw2 := hal.trans (hb2.mono (by simp))
              have hbx2 := hbox.below hb2
              have HL2 := hide (HL1.out.below hw2)
              have x0 := hbx2.c0
              have x1 := hbx2.c1
              have x2 := hbx2.c2
              have a0 := (HL2.out.node (k - 1) (by omega)).c0
              clear hbox c0 c1 c2 c3 c4
              go_wp2
              go_big_quiet (fail)
              go_wp2_with fail
              refine (parent_is b o n c L k p (unhide HP) _ (unhide HN) hlt ((unhide HL2).below (drewN_of (Below.refl _ _) _)) hd1 hd3).mono ?_
              rintro e w3 ⟨rfl, hb3⟩
              have hw3 := drewN_of (Below.refl w2.heap.size w2) nq
              have hb23 := hw3.trans (hb3.mono (Nat.le_refl _))
              have HL3 := hide (HL2.out.below hb23)
              have hbx3 := hbx2.below hb23
              clear x0 x1 x2 a0 hbx2
              have x0 := hbx3.c0
              have x2 := hbx3.c2
              have p1 := (HL3.out.node p (by omega)).c1
              have fin3 : Below w.heap.size w w3 := hbel.trans ((hw2.mono hbel.size).trans (hb23.mono (Nat.le_trans hbel.size hw2.size)))
              clear hw3 hb23 hb3 hw2 hal hb2 HL2 HL1 HO
              cases ht : (L p).t.toList.isEmpty with
              | true =>
                have HS := hide (HX.out.trans (search_hit hlt hall.out (HM.out.trans (HP.out.text ht))))
                go_wp2
                go_ret2
                exact ⟨ret_two HS.out, fin3⟩
              | false =>
                go_wp2
                go_loopw [8] (fun i wr => ∃ m q : Nat, p < m ∧ m ≤ k ∧ i = .int .i64 m ∧ Hid (∀ j, p < j → j < m → ¬ ((L k).k ≠ 0 ∧ (L j).d = (L k).d ∧ (L j).k = (L k).k)) ∧ wr = w3.drewN q) (fun i _ => k - (intOf i).toNat)
                case atStart => exact ⟨p + 1, 0, by omega, by omega, by go_num, hide (fun j h h' => by omega), rfl⟩
                case round =>
                  obtain ⟨m, q, hpm, hmk, rfl, hno, rfl⟩ := hrel
                  by_cases hmk2 : m < k
                  · by_cases hkp : 0 < (L k).k
                    · have y0 := (HL3.out.node m (by omega)).c0
                      have y2 := (HL3.out.node m (by omega)).c2
                      by_cases hd : (L m).d = (L k).d
                      · have db : ((L m).d == (L k).d) = true := by simp [hd]
                        by_cases hkk : (L m).k = (L k).k
                        · have kb : ((L m).k == (L k).k) = true := by simp [hkk]
                          have HS := hide (HX.out.trans (search_hit hlt hall.out (HM.out.trans (HP.out.bad hpm hmk2 ⟨by omega, hd, hkk⟩))))
                          clear hd hkk
                          go_wp2
                          go_big_quiet (fail)
                          go_wp2
                          go_ret2
                          exact ⟨ret_two HS.out, drewN_of (drewN_of fin3 _) _⟩
                        · have kb : ((L m).k == (L k).k) = false := by simp [hkk]
                          have HS := hide (not_step hno.out (p := p) (m := m) (fun h => hkk h.2.2))
                          clear hd hkk
                          go_wp2
                          go_big_quiet (fail)
                          go_wp2
                          go_roundw
                          case rel => exact ⟨m + 1, _, by omega, by omega, by go_num, HS, rfl⟩
                          case measure => simp [intOf]; omega
                      · have db : ((L m).d == (L k).d) = false := by simp [hd]
                        have HS := hide (not_step hno.out (p := p) (m := m) (fun h => hd h.2.1))
                        clear hd
                        go_wp2
                        go_big_quiet (fail)
                        go_wp2
                        go_roundw
                        case rel => exact ⟨m + 1, _, by omega, by omega, by go_num, HS, rfl⟩
                        case measure => simp [intOf]; omega
                    · have HS := hide (upto_step hall.out (HM.out.trans ((HP.out.good (fun j _ _ h => h.1 (by omega))).trans (by rw [ht]; rfl))))
                      go_wp2
                      go_roundw
                      case rel => exact ⟨k + 1, by omega, by go_num, HS, drewN_of fin3 _⟩
                      case measure => simp [intOf]; omega
                  · have HS := hide (upto_step hall.out (HM.out.trans ((HP.out.good (fun j a b => hno.out j a (by omega))).trans (by rw [ht]; rfl))))
                    go_wp2
                    go_roundw
                    case rel => exact ⟨k + 1, by omega, by go_num, HS, drewN_of fin3 _⟩
                    case measure => simp [intOf]; omega
      · have HS := hide (HX.out.trans (search_all fun j hj => hall.out j (by omega)))
        go_wp2
        go_ret2
        exact ⟨ret_two HS.out, hbel⟩
end Go.Proofs.YtobgcaemnpkbmaaGreat
