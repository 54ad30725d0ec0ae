/-
  What 'isElement' and 'isTextNode' answer of a node.
-/
import Derived.Test.YtobgcaemnpkbmaaAttrs
namespace Go.Proofs.Ytobgcaemnpkbmaa
open Go.RowKit

/-- A node as its parts: its attributes' slice value, and what lies behind it. -/
structure Nod where
  d : Int
  t : ByteArray
  k : Int
  ao : Option Addr
  an : Nat
  ac : Nat
  x : ByteArray
  nm : Nat → ByteArray
  vl : Nat → ByteArray

/-- The node's value. -/
def Nod.val (n : Nod) : Value := .agg #[.int .i64 n.d, .string n.t, .int .i64 n.k, .slice n.ao n.an n.ac, .string n.x]
/-- What lies behind a node's value in memory; its sizes. -/
structure Nod.Ok (w : World) (n : Nod) : Prop where
  an : n.an ≤ maxLen
  t : n.t.size ≤ maxLen
  x : n.x.size ≤ maxLen
  at' : AttrsAt w n.ao n.an n.nm n.vl

theorem AttrsAt.below {w w' : World} {ao : Option Addr} {n : Nat} {nm vl : Nat → ByteArray} (h : AttrsAt w ao n nm vl) (hb : Below w.heap.size w w') : AttrsAt w' ao n nm vl := by
  intro j hj
  obtain ⟨b, o, e, hbw, c0, c1, s0, s1⟩ := h j hj
  exact ⟨b, o, e, Nat.lt_of_lt_of_le hbw hb.size, (hb.cell (p := ⟨b, _, none⟩) hbw).trans c0, (hb.cell (p := ⟨b, _, none⟩) hbw).trans c1, s0, s1⟩
theorem Nod.Ok.below {w w' : World} {n : Nod} (h : n.Ok w) (hb : Below w.heap.size w w') : n.Ok w' := ⟨h.an, h.t, h.x, h.at'.below hb⟩

/-- Is the node an element, by itself? -/
def elB (n : Nod) : Bool := nameB n.t && n.x.toList.isEmpty && decide (0 ≤ n.k) && attrsB n.an n.nm n.vl
/-- Is it a text node? -/
def txB (n : Nod) : Bool := n.t.toList.isEmpty && decide (n.k = 0) && decide (n.an = 0) && textB n.x

theorem areAttrs_is (n : Nod) (b : Bool) (hb : attrsB n.an n.nm n.vl = b) (w : World) (hn : n.an ≤ maxLen) (hA : AttrsAt w n.ao n.an n.nm n.vl) :
    Calls Try.prog 62 #[.slice n.ao n.an n.ac] w fun e w' => e = .returned (.bool b) ∧ Below w.heap.size w w' := by
  subst hb; exact areAttrs_any _ _ _ _ _ _ hn hA

set_option maxHeartbeats 400000 in
theorem isElement_any (n : Nod) (w : World) (h : n.Ok w) :
    Calls Try.prog 42 #[n.val] w fun e w' => e = .returned (.bool (elB n)) ∧ Below w.heap.size w w' := by
  have fin : ∀ O, Below w.heap.size w (w.alloc O) := fun O => (Below.refl _ _).alloc (Nat.le_refl _) O
  have HA : ∀ O, Hid (AttrsAt (w.alloc O) n.ao n.an n.nm n.vl) := fun O => h.at'.below (fin O)
  obtain ⟨h1, h2, h3, _⟩ := h
  unfold Nod.val
  cases hN : nameB n.t with
  | false =>
    have HX : Hid (elB n = false) := hide (by unfold elB; rw [hN]; rfl)
    have HN := hide hN
    clear hN
    go_enter Try.func42, Try.ntmps42
    go_wp2_with (go_at_call 61; refine (isName_is _ false (unhide HN) h2 _).mono ?_; rintro e w' ⟨rfl, rfl⟩)
    go_ret
    exact ⟨ret_bool HX.out.symm, fin _⟩
  | true =>
    have HN := hide hN
    cases hE : n.x.toList.isEmpty with
    | false =>
      have HX : Hid (elB n = false) := hide (by unfold elB; rw [hE]; simp)
      clear hN
      go_enter Try.func42, Try.ntmps42
      go_wp2_with (go_at_call 61; refine (isName_is _ true (unhide HN) h2 _).mono ?_; rintro e w' ⟨rfl, rfl⟩)
      go_ret
      exact ⟨ret_bool HX.out.symm, fin _⟩
    | true =>
      by_cases hK : 0 ≤ n.k
      · cases hB : attrsB n.an n.nm n.vl
        all_goals
          have HX : Hid (elB n = attrsB n.an n.nm n.vl) := hide (by unfold elB; rw [hN, hE, decide_eq_true hK]; rfl)
          have HB := hide hB
          clear hN hB
          go_enter Try.func42, Try.ntmps42
          go_wp2_with (first | (go_at_call 61; refine (isName_is _ true (unhide HN) h2 _).mono ?_; rintro e w' ⟨rfl, rfl⟩) | (go_at_call 62; refine (areAttrs_is n _ (unhide HB) _ h1 (unhide (HA _))).mono ?_; rintro e w2 ⟨rfl, hb2⟩))
          go_ret
          exact ⟨ret_bool (by rw [HX.out, HB.out]), (fin _).trans (hb2.mono (by simp))⟩
      · have HX : Hid (elB n = false) := hide (by unfold elB; rw [decide_eq_false hK]; simp)
        clear hN
        go_enter Try.func42, Try.ntmps42
        go_wp2_with (go_at_call 61; refine (isName_is _ true (unhide HN) h2 _).mono ?_; rintro e w' ⟨rfl, rfl⟩)
        go_ret
        exact ⟨ret_bool HX.out.symm, fin _⟩

set_option maxHeartbeats 400000 in
theorem isTextNode_any (n : Nod) (w : World) (h : n.Ok w) :
    Calls Try.prog 44 #[n.val] w fun e w' => e = .returned (.bool (txB n)) ∧ Below w.heap.size w w' := by
  have fin : ∀ O, Below w.heap.size w (w.alloc O) := fun O => (Below.refl _ _).alloc (Nat.le_refl _) O
  obtain ⟨h1, h2, h3, _⟩ := h
  unfold Nod.val
  cases hE : n.t.toList.isEmpty with
  | false =>
    have HX : Hid (txB n = false) := hide (by unfold txB; rw [hE]; simp)
    go_enter Try.func44, Try.ntmps44
    go_wp2
    go_ret
    exact ⟨ret_bool HX.out.symm, fin _⟩
  | true =>
    by_cases hK : n.k = 0
    · by_cases hZ : n.an = 0
      · have HX : Hid (txB n = textB n.x) := hide (by unfold txB; rw [hE, decide_eq_true hK, decide_eq_true hZ]; rfl)
        have kb : (n.k == 0) = true := by simp [hK]
        have zb : ((n.an : Int) == 0) = true := by simp [hZ]
        clear hK hZ
        go_enter Try.func44, Try.ntmps44
        go_wp2_with (go_at_call 63; refine (isText_any _ _ h3).mono ?_; rintro e w' ⟨rfl, rfl⟩)
        go_ret
        exact ⟨ret_bool (by rw [HX.out]), fin _⟩
      · have HX : Hid (txB n = false) := hide (by unfold txB; rw [decide_eq_false hZ]; simp)
        have kb : (n.k == 0) = true := by simp [hK]
        have zb : ((n.an : Int) == 0) = false := by simp; omega
        clear hK hZ
        go_enter Try.func44, Try.ntmps44
        go_wp2
        go_ret
        exact ⟨ret_bool HX.out.symm, fin _⟩
    · have HX : Hid (txB n = false) := hide (by unfold txB; rw [decide_eq_false hK]; simp)
      have kb : (n.k == 0) = false := by simp [hK]
      clear hK
      go_enter Try.func44, Try.ntmps44
      go_wp2
      go_ret
      exact ⟨ret_bool HX.out.symm, fin _⟩

end Go.Proofs.Ytobgcaemnpkbmaa
