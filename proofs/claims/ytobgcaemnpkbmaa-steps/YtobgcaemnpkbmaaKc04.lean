/- Elem Place May Chk Single Single2 Parent Tree Ref Mem -/
import Derived.Test.YtobgcaemnpkbmaaKc03
import Derived.Deep.OwnRows
import Derived.Laws.CopyRow
namespace Go.Proofs.Ytobgcaemnpkbmaa
open Go.RowKit
structure Nod where
  d : Int
  t : ByteArray
  k : Int
  ao : Option Addr
  an : Nat
  ac : Nat
  x : ByteArray
  nm : Nat → ByteArray
  vl : Nat → ByteArray
def Nod.val (n : Nod) : Value := .agg #[.int .i64 n.d, .string n.t, .int .i64 n.k, .slice n.ao n.an n.ac, .string n.x]
structure Nod.Ok (w : World) (n : Nod) : Prop where
  an : n.an ≤ maxLen
  t : n.t.size ≤ maxLen
  x : n.x.size ≤ maxLen
  at' : AttrsAt w n.ao n.an n.nm n.vl
theorem AttrsAt.below {w w' : World} {ao : Option Addr} {n : Nat} {nm vl : Nat → ByteArray} (h : AttrsAt w ao n nm vl) (hb : Below w.heap.size w w') : AttrsAt w' ao n nm vl := by
  intro j hj
  obtain ⟨b, o, e, hbw, c0, c1, s0, s1⟩ := h j hj
  exact ⟨b, o, e, Nat.lt_of_lt_of_le hbw hb.size, (hb.cell (p := ⟨b, _, none⟩) hbw).trans c0, (hb.cell (p := ⟨b, _, none⟩) hbw).trans c1, s0, s1⟩
theorem Nod.Ok.below {w w' : World} {n : Nod} (h : n.Ok w) (hb : Below w.heap.size w w') : n.Ok w' := ⟨h.an, h.t, h.x, h.at'.below hb⟩
def elB (n : Nod) : Bool := nameB n.t && n.x.toList.isEmpty && decide (0 ≤ n.k) && attrsB n.an n.nm n.vl
def txB (n : Nod) : Bool := n.t.toList.isEmpty && decide (n.k = 0) && decide (n.an = 0) && textB n.x
theorem areAttrs_is (n : Nod) (b : Bool) (hb : attrsB n.an n.nm n.vl = b) (w : World) (hn : n.an ≤ maxLen) (hA : AttrsAt w n.ao n.an n.nm n.vl) :
    Calls Try.prog 62 #[.slice n.ao n.an n.ac] w fun e w' => e = .returned (.bool b) ∧ Below w.heap.size w w' := by
  subst hb; exact areAttrs_any _ _ _ _ _ _ hn hA
set_option maxHeartbeats 400000 in
theorem isElement_any (n : Nod) (w : World) (h : n.Ok w) :
    Calls Try.prog 42 #[n.val] w fun e w' => e = .returned (.bool (elB n)) ∧ Below w.heap.size w w' := by
  have fin : ∀ O, Below w.heap.size w (w.alloc O) := fun O => (Below.refl _ _).alloc (Nat.le_refl _) O
  have HA : ∀ O, Hid (AttrsAt (w.alloc O) n.ao n.an n.nm n.vl) := fun O => h.at'.below (fin O)
  obtain ⟨h1, h2, h3, _⟩ := h
  unfold Nod.val
  cases hN : nameB n.t with
  | false =>
    have HX : Hid (elB n = false) := hide (by unfold elB; rw [hN]; rfl)
    have HN := hide hN
    clear hN
    go_enter Try.func42, Try.ntmps42
    go_wp2_with (go_at_call 61; refine (isName_is _ false (unhide HN) h2 _).mono ?_; rintro e w' ⟨rfl, rfl⟩)
    go_ret
    exact ⟨ret_bool HX.out.symm, fin _⟩
  | true =>
    have HN := hide hN
    cases hE : n.x.toList.isEmpty with
    | false =>
      have HX : Hid (elB n = false) := hide (by unfold elB; rw [hE]; simp)
      clear hN
      go_enter Try.func42, Try.ntmps42
      go_wp2_with (go_at_call 61; refine (isName_is _ true (unhide HN) h2 _).mono ?_; rintro e w' ⟨rfl, rfl⟩)
      go_ret
      exact ⟨ret_bool HX.out.symm, fin _⟩
    | true =>
      by_cases hK : 0 ≤ n.k
      · cases hB : attrsB n.an n.nm n.vl
        all_goals
          have HX : Hid (elB n = attrsB n.an n.nm n.vl) := hide (by unfold elB; rw [hN, hE, decide_eq_true hK]; rfl)
          have HB := hide hB
          clear hN hB
          go_enter Try.func42, Try.ntmps42
          go_wp2_with (first | (go_at_call 61; refine (isName_is _ true (unhide HN) h2 _).mono ?_; rintro e w' ⟨rfl, rfl⟩) | (go_at_call 62; refine (areAttrs_is n _ (unhide HB) _ h1 (unhide (HA _))).mono ?_; rintro e w2 ⟨rfl, hb2⟩))
          go_ret
          exact ⟨ret_bool (by rw [HX.out, HB.out]), (fin _).trans (hb2.mono (by simp))⟩
      · have HX : Hid (elB n = false) := hide (by unfold elB; rw [decide_eq_false hK]; simp)
        clear hN
        go_enter Try.func42, Try.ntmps42
        go_wp2_with (go_at_call 61; refine (isName_is _ true (unhide HN) h2 _).mono ?_; rintro e w' ⟨rfl, rfl⟩)
        go_ret
        exact ⟨ret_bool HX.out.symm, fin _⟩
set_option maxHeartbeats 400000 in
theorem isTextNode_any (n : Nod) (w : World) (h : n.Ok w) :
    Calls Try.prog 44 #[n.val] w fun e w' => e = .returned (.bool (txB n)) ∧ Below w.heap.size w w' := by
  have fin : ∀ O, Below w.heap.size w (w.alloc O) := fun O => (Below.refl _ _).alloc (Nat.le_refl _) O
  obtain ⟨h1, h2, h3, _⟩ := h
  unfold Nod.val
  cases hE : n.t.toList.isEmpty with
  | false =>
    have HX : Hid (txB n = false) := hide (by unfold txB; rw [hE]; simp)
    go_enter Try.func44, Try.ntmps44
    go_wp2
    go_ret
    exact ⟨ret_bool HX.out.symm, fin _⟩
  | true =>
    by_cases hK : n.k = 0
    · by_cases hZ : n.an = 0
      · have HX : Hid (txB n = textB n.x) := hide (by unfold txB; rw [hE, decide_eq_true hK, decide_eq_true hZ]; rfl)
        have kb : (n.k == 0) = true := by simp [hK]
        have zb : ((n.an : Int) == 0) = true := by simp [hZ]
        clear hK hZ
        go_enter Try.func44, Try.ntmps44
        go_wp2_with (go_at_call 63; refine (isText_any _ _ h3).mono ?_; rintro e w' ⟨rfl, rfl⟩)
        go_ret
        exact ⟨ret_bool (by rw [HX.out]), fin _⟩
      · have HX : Hid (txB n = false) := hide (by unfold txB; rw [decide_eq_false hZ]; simp)
        have kb : (n.k == 0) = true := by simp [hK]
        have zb : ((n.an : Int) == 0) = false := by simp; omega
        clear hK hZ
        go_enter Try.func44, Try.ntmps44
        go_wp2
        go_ret
        exact ⟨ret_bool HX.out.symm, fin _⟩
    · have HX : Hid (txB n = false) := hide (by unfold txB; rw [decide_eq_false hK]; simp)
      have kb : (n.k == 0) = false := by simp [hK]
      clear hK
      go_enter Try.func44, Try.ntmps44
      go_wp2
      go_ret
      exact ⟨ret_bool HX.out.symm, fin _⟩
end Go.Proofs.Ytobgcaemnpkbmaa
namespace Go.Proofs.Ytobgcaemnpkbmaa
open Go.RowKit
structure NodAt (w : World) (b p : Nat) (n : Nod) : Prop where
  c0 : w.cell? ⟨b, p, none⟩ = some (.int .i64 n.d)
  c1 : w.cell? ⟨b, p + 1, none⟩ = some (.string n.t)
  c2 : w.cell? ⟨b, p + 2, none⟩ = some (.int .i64 n.k)
  c3 : w.cell? ⟨b, p + 3, none⟩ = some (.slice n.ao n.an n.ac)
  c4 : w.cell? ⟨b, p + 4, none⟩ = some (.string n.x)
  ok : n.Ok w
structure NodesAt (w : World) (b o n : Nat) (L : Nat → Nod) : Prop where
  lt : b < w.heap.size
  node : ∀ i, i < n → NodAt w b (o + i * 5) (L i)
theorem NodAt.below {w w' : World} {b p : Nat} {n : Nod} (h : NodAt w b p n) (hw : b < w.heap.size) (hb : Below w.heap.size w w') : NodAt w' b p n :=
  ⟨(hb.cell (p := ⟨b, _, none⟩) hw).trans h.c0, (hb.cell (p := ⟨b, _, none⟩) hw).trans h.c1, (hb.cell (p := ⟨b, _, none⟩) hw).trans h.c2, (hb.cell (p := ⟨b, _, none⟩) hw).trans h.c3, (hb.cell (p := ⟨b, _, none⟩) hw).trans h.c4, h.ok.below hb⟩
theorem NodesAt.below {w w' : World} {b o n : Nat} {L : Nat → Nod} (h : NodesAt w b o n L) (hb : Below w.heap.size w w') : NodesAt w' b o n L :=
  ⟨Nat.lt_of_lt_of_le h.lt hb.size, fun i hi => (h.node i hi).below h.lt hb⟩
def goBack (L : Nat → Nod) (i : Nat) : Nat → Bool
  | 0 => false
  | j + 1 => if (L j).d < (L i).d then !(L j).t.toList.isEmpty else if (L i).k ≠ 0 ∧ (L j).d = (L i).d ∧ (L j).k = (L i).k then false else goBack L i j
theorem goBack_up {L : Nat → Nod} {i j : Nat} (h : (L j).d < (L i).d) : goBack L i (j + 1) = !(L j).t.toList.isEmpty := by
  rw [goBack, if_pos h]
theorem goBack_same {L : Nat → Nod} {i j : Nat} (h : ¬ (L j).d < (L i).d) (h1 : (L i).k ≠ 0) (h2 : (L j).d = (L i).d) (h3 : (L j).k = (L i).k) : goBack L i (j + 1) = false := by
  rw [goBack, if_neg h, if_pos ⟨h1, h2, h3⟩]
theorem goBack_on {L : Nat → Nod} {i j : Nat} (h : ¬ (L j).d < (L i).d) (h1 : ¬ ((L i).k ≠ 0 ∧ (L j).d = (L i).d ∧ (L j).k = (L i).k)) : goBack L i (j + 1) = goBack L i j := by
  rw [goBack, if_neg h, if_neg h1]
set_option maxHeartbeats 400000 in
theorem placeFits_any (b o n c : Nat) (L : Nat → Nod) (i : Nat) (w : World) (hn : n ≤ maxLen) (hi : i < n) (h : NodesAt w b o n L) :
    Calls Try.prog 45 #[.slice (some ⟨b, o, none⟩) n c, .int .i64 i] w fun e w' => e = .returned (.bool (goBack L i i)) ∧ Below w.heap.size w w' := by
  unfold maxLen at hn
  have H := hide h
  have hb := h.lt
  obtain ⟨c0, c1, c2, c3, c4, _⟩ := h.node i hi
  clear h
  go_enter Try.func45, Try.ntmps45
  go_wp2
  go_loopw [6] (fun j wr => ∃ m q : Nat, m ≤ i ∧ j = .int .i64 ((m : Int) - 1) ∧ Hid (goBack L i m = goBack L i i) ∧ wr = (w.alloc (.cells #[.int .i64 (L i).d, .string (L i).t, .int .i64 (L i).k, .slice (L i).ao (L i).an (L i).ac, .string (L i).x] 28)).drewN q) (fun j _ => (intOf j + 1).toNat)
  case atStart => exact ⟨i, 0, Nat.le_refl _, rfl, rfl, rfl⟩
  case round =>
    obtain ⟨m, q, hm, rfl, hg, rfl⟩ := hrel
    cases m with
    | zero =>
      go_wp2
      go_ret
      exact ⟨ret_bool hg.out, drewN_of ((Below.refl _ _).alloc (Nat.le_refl _) _) _⟩
    | succ p =>
      have e : (((p + 1 : Nat) : Int) - 1) = p := by omega
      rw [e]
      clear e
      obtain ⟨d0, d1, d2, _, _, _⟩ := H.out.node p (by omega)
      have hbn : b ≠ w.heap.size := by omega
      have fin : ∀ q, Below w.heap.size w ((w.alloc (.cells #[.int .i64 (L i).d, .string (L i).t, .int .i64 (L i).k, .slice (L i).ao (L i).an (L i).ac, .string (L i).x] 28)).drewN q) := fun q => drewN_of ((Below.refl _ _).alloc (Nat.le_refl _) _) _
      by_cases hlt : (L p).d < (L i).d
      · have HX := hide (hg.out.symm.trans (goBack_up hlt))
        clear hg
        go_wp2
        go_big_quiet (fail)
        go_wp2
        go_ret
        exact ⟨ret_bool HX.out.symm, fin _⟩
      · have hge : (L i).d ≤ (L p).d := by omega
        by_cases hk : (L i).k = 0
        · have HX := hide ((goBack_on hlt (by intro h; exact h.1 hk)).symm.trans hg.out)
          have kb : ((L i).k != 0) = false := by simp [hk]
          clear hg hk hlt
          go_wp2
          go_big_quiet (fail)
          go_wp2
          go_big_quiet (fail)
          go_wp2
          go_roundw
          case rel => exact ⟨p, _, by omega, by go_num, HX, rfl⟩
          case measure => simp [intOf]
        · have kb : ((L i).k != 0) = true := by simp [hk]
          by_cases hd : (L p).d = (L i).d
          · have db : ((L p).d == (L i).d) = true := by simp [hd]
            by_cases hkk : (L p).k = (L i).k
            · have HX := hide (hg.out.symm.trans (goBack_same hlt hk hd hkk))
              have kk : ((L p).k == (L i).k) = true := by simp [hkk]
              clear hg hk hlt hd hkk
              go_wp2
              go_big_quiet (fail)
              go_wp2
              go_big_quiet (fail)
              go_wp2
              go_ret
              exact ⟨ret_bool HX.out.symm, drewN_of (drewN_of (fin _) _) _⟩
            · have HX := hide ((goBack_on hlt (by intro h; exact hkk h.2.2)).symm.trans hg.out)
              have kk : ((L p).k == (L i).k) = false := by simp [hkk]
              clear hg hk hlt hd hkk
              go_wp2
              go_big_quiet (fail)
              go_wp2
              go_big_quiet (fail)
              go_wp2
              go_roundw
              case rel => exact ⟨p, _, by omega, by go_num, HX, rfl⟩
              case measure => simp [intOf]
          · have HX := hide ((goBack_on hlt (by intro h; exact hd h.2.1)).symm.trans hg.out)
            have db : ((L p).d == (L i).d) = false := by simp [hd]
            clear hg hk hlt hd
            go_wp2
            go_big_quiet (fail)
            go_wp2
            go_big_quiet (fail)
            go_wp2
            go_roundw
            case rel => exact ⟨p, _, by omega, by go_num, HX, rfl⟩
            case measure => simp [intOf]
end Go.Proofs.Ytobgcaemnpkbmaa
namespace Go.Proofs.Ytobgcaemnpkbmaa
open Go.RowKit
structure Ext (w : World) where
  to : World
  below : Below w.heap.size w to
theorem wp_region_ext {P : Program} {id : Nat} {Q : Exit → Act → World → Prop} {a : Act} {w : World} {l : List Oper} (hm : P.follows .mixedOrders = true) (hB : Region.lexB .any l.toArray = true)
    (h : wpQuiet P l.toArray (fun w' => ∃ g : Ext w, w' = g.to) (fun a' => ∀ w', (∃ g : Ext w, w' = g.to) → Q .normal a' w') l a) : (Code.region id l.toArray true).wp P Q a w :=
  wp_region_quiet (C := fun w' => ∃ g : Ext w, w' = g.to) hm hB ⟨⟨w.drew, (Below.refl _ _).drew⟩, rfl⟩ (by simpa using h)
theorem ext_of {P : Program} {f : FuncId} {args : Array Value} {w : World} {g : Ext w} {v : Value}
    (h : Calls P f args g.to fun e w' => e = .returned v ∧ Below g.to.heap.size g.to w') : Calls P f args g.to fun e w'' => e = .returned v ∧ ∃ g' : Ext w, w'' = g'.to :=
  h.mono fun _ w' ⟨he, hb⟩ => ⟨he, ⟨⟨w', g.below.trans (hb.mono g.below.size)⟩, rfl⟩⟩
theorem ext_of_same {P : Program} {f : FuncId} {args : Array Value} {w : World} {g : Ext w} {v : Value}
    (h : Calls P f args g.to fun e w' => e = .returned v ∧ w' = g.to) : Calls P f args g.to fun e w'' => e = .returned v ∧ ∃ g' : Ext w, w'' = g'.to :=
  h.mono fun _ _ ⟨he, hb⟩ => ⟨he, ⟨g, hb⟩⟩
theorem isElement_is (n : Nod) (r : Bool) (hr : elB n = r) (w : World) (h : n.Ok w) :
    Calls Try.prog 42 #[.agg #[.int .i64 n.d, .string n.t, .int .i64 n.k, .slice n.ao n.an n.ac, .string n.x]] w fun e w' => e = .returned (.bool r) ∧ Below w.heap.size w w' := by
  subst hr; exact isElement_any n w h
theorem isTextNode_is (n : Nod) (r : Bool) (hr : txB n = r) (w : World) (h : n.Ok w) :
    Calls Try.prog 44 #[.agg #[.int .i64 n.d, .string n.t, .int .i64 n.k, .slice n.ao n.an n.ac, .string n.x]] w fun e w' => e = .returned (.bool r) ∧ Below w.heap.size w w' := by
  subst hr; exact isTextNode_any n w h
theorem depthFits_is (a d : Int) (r : Bool) (hr : depthB a d = r) (w : World) (h0 : 0 ≤ a) (h1 : a ≤ 11) :
    Calls Try.prog 43 #[.int .i64 a, .int .i64 d] w fun e w' => e = .returned (.bool r) ∧ w' = w := by
  subst hr; exact depthFits_any a d w h0 h1
def mayB (L : Nat → Nod) (i : Nat) : Bool :=
  if i = 0 then decide ((L 0).d = 0) && elB (L 0) else depthB (L (i - 1)).d (L i).d && (elB (L i) || txB (L i)) && goBack L i i
set_option maxHeartbeats 400000 in
theorem mayBe_zero (b o n c : Nat) (L : Nat → Nod) (w : World) (_hn : n ≤ maxLen) (hi : 0 < n) (h : NodesAt w b o n L) :
    Calls Try.prog 33 #[.slice (some ⟨b, o, none⟩) n c, .int .i64 0] w fun e w' => e = .returned (.bool (mayB L 0)) ∧ Below w.heap.size w w' := by
  obtain ⟨c0, c1, c2, c3, c4, hok⟩ := h.node 0 hi
  simp only [Nat.zero_mul, Nat.add_zero] at c0 c1 c2 c3 c4
  have HO := hide hok
  clear h hok
  by_cases hd : (L 0).d = 0
  · have HX : Hid (mayB L 0 = elB (L 0)) := hide (by unfold mayB; rw [if_pos rfl, decide_eq_true hd]; rfl)
    have db : ((L 0).d == 0) = true := by simp [hd]
    clear hd
    go_enter Try.func33, Try.ntmps33
    go_wp2_with (go_at_call 42; refine (isElement_is (L 0) _ rfl _ (unhide HO)).mono ?_; rintro e w' ⟨rfl, hb2⟩)
    go_ret
    exact ⟨ret_bool HX.out.symm, hb2⟩
  · have HX : Hid (mayB L 0 = false) := hide (by unfold mayB; rw [if_pos rfl, decide_eq_false hd]; rfl)
    have db : ((L 0).d == 0) = false := by simp [hd]
    clear hd
    go_enter Try.func33, Try.ntmps33
    go_wp2
    go_ret
    exact ⟨ret_bool HX.out.symm, Below.refl _ _⟩
set_option maxHeartbeats 400000 in
theorem mayBe_next (b o n c : Nat) (L : Nat → Nod) (i : Nat) (w : World) (hn : n ≤ maxLen) (hi0 : 0 < i) (hi : i < n) (h : NodesAt w b o n L) (hd0 : 0 ≤ (L (i - 1)).d) (hd1 : (L (i - 1)).d ≤ 11) :
    Calls Try.prog 33 #[.slice (some ⟨b, o, none⟩) n c, .int .i64 i] w fun e w' => e = .returned (.bool (mayB L i)) ∧ Below w.heap.size w w' := by
  have HN := hide hn
  unfold maxLen at hn
  have H : Hid (∀ g : Ext w, NodesAt g.to b o n L) := hide (fun g => h.below g.below)
  have c0 : ∀ g : Ext w, g.to.cell? ⟨b, o + i * 5, none⟩ = some (.int .i64 (L i).d) := fun g => ((unhide H g).node i hi).c0
  have c1 : ∀ g : Ext w, g.to.cell? ⟨b, o + i * 5 + 1, none⟩ = some (.string (L i).t) := fun g => ((unhide H g).node i hi).c1
  have c2 : ∀ g : Ext w, g.to.cell? ⟨b, o + i * 5 + 2, none⟩ = some (.int .i64 (L i).k) := fun g => ((unhide H g).node i hi).c2
  have c3 : ∀ g : Ext w, g.to.cell? ⟨b, o + i * 5 + 3, none⟩ = some (.slice (L i).ao (L i).an (L i).ac) := fun g => ((unhide H g).node i hi).c3
  have c4 : ∀ g : Ext w, g.to.cell? ⟨b, o + i * 5 + 4, none⟩ = some (.string (L i).x) := fun g => ((unhide H g).node i hi).c4
  have a0 : ∀ g : Ext w, g.to.cell? ⟨b, o + (i - 1) * 5, none⟩ = some (.int .i64 (L (i - 1)).d) := fun g => ((unhide H g).node (i - 1) (by omega)).c0
  clear h
  have ib : ((i : Int) == 0) = false := by simp; omega
  have hne : Nonempty (Ext w) := ⟨⟨w, Below.refl _ _⟩⟩
  cases hD : depthB (L (i - 1)).d (L i).d with
  | false =>
    have HX : Hid (mayB L i = false) := hide (by unfold mayB; rw [if_neg (by omega), hD]; rfl)
    have HD := hide hD
    clear hD
    go_enter Try.func33, Try.ntmps33
    go_wp2
    refine wp_region_ext (by kernel_rfl) (by kernel_rfl) ?_
    repeat (go_big_quiet_step ((go_at_call 43; exact ext_of_same (depthFits_is _ _ _ (unhide HD) _ hd0 hd1))))
    refine wpQuiet_nil ?_
    intro _ hw'
    obtain ⟨g, hw''⟩ := hw'
    subst hw''
    go_wp2
    go_ret
    exact ⟨ret_bool HX.out.symm, g.below⟩
  | true =>
    cases hE : elB (L i) with
    | true =>
      have HX : Hid (mayB L i = goBack L i i) := hide (by unfold mayB; rw [if_neg (by omega), hD, hE]; simp)
      have HD := hide hD
      have HE := hide hE
      clear hD hE
      go_enter Try.func33, Try.ntmps33
      go_wp2
      refine wp_region_ext (by kernel_rfl) (by kernel_rfl) ?_
      repeat (go_big_quiet_step (first | (go_at_call 43; exact ext_of_same (depthFits_is _ _ _ (unhide HD) _ hd0 hd1)) | (go_at_call 42; exact ext_of (isElement_is (L i) _ (unhide HE) _ ((unhide H _).node i hi).ok)) | (go_at_call 45; exact ext_of (placeFits_any b o n c L i _ (unhide HN) hi (unhide H _)))))
      refine wpQuiet_nil ?_
      intro _ hw'
      obtain ⟨g, hw''⟩ := hw'
      subst hw''
      go_wp2
      go_ret
      exact ⟨ret_bool HX.out.symm, g.below⟩
    | false =>
      cases hT : txB (L i) with
      | true =>
        have HX : Hid (mayB L i = goBack L i i) := hide (by unfold mayB; rw [if_neg (by omega), hD, hE, hT]; simp)
        have HD := hide hD
        have HE := hide hE
        have HT := hide hT
        clear hD hE hT
        go_enter Try.func33, Try.ntmps33
        go_wp2
        refine wp_region_ext (by kernel_rfl) (by kernel_rfl) ?_
        repeat (go_big_quiet_step (first | (go_at_call 43; exact ext_of_same (depthFits_is _ _ _ (unhide HD) _ hd0 hd1)) | (go_at_call 42; exact ext_of (isElement_is (L i) _ (unhide HE) _ ((unhide H _).node i hi).ok)) | (go_at_call 44; exact ext_of (isTextNode_is (L i) _ (unhide HT) _ ((unhide H _).node i hi).ok)) | (go_at_call 45; exact ext_of (placeFits_any b o n c L i _ (unhide HN) hi (unhide H _)))))
        refine wpQuiet_nil ?_
        intro _ hw'
        obtain ⟨g, hw''⟩ := hw'
        subst hw''
        go_wp2
        go_ret
        exact ⟨ret_bool HX.out.symm, g.below⟩
      | false =>
        have HX : Hid (mayB L i = false) := hide (by unfold mayB; rw [if_neg (by omega), hE, hT]; simp)
        have HD := hide hD
        have HE := hide hE
        have HT := hide hT
        clear hD hE hT
        go_enter Try.func33, Try.ntmps33
        go_wp2
        refine wp_region_ext (by kernel_rfl) (by kernel_rfl) ?_
        repeat (go_big_quiet_step (first | (go_at_call 43; exact ext_of_same (depthFits_is _ _ _ (unhide HD) _ hd0 hd1)) | (go_at_call 42; exact ext_of (isElement_is (L i) _ (unhide HE) _ ((unhide H _).node i hi).ok)) | (go_at_call 44; exact ext_of (isTextNode_is (L i) _ (unhide HT) _ ((unhide H _).node i hi).ok))))
        refine wpQuiet_nil ?_
        intro _ hw'
        obtain ⟨g, hw''⟩ := hw'
        subst hw''
        go_wp2
        go_ret
        exact ⟨ret_bool HX.out.symm, g.below⟩
end Go.Proofs.Ytobgcaemnpkbmaa
namespace Go.Proofs.Ytobgcaemnpkbmaa
open Go.RowKit
def search (ok : Nat → Bool) (n : Nat) : Int × Int := match (List.range n).find? (fun i => !ok i) with
  | some i => (2, i)
  | none => (0, 0)
theorem search_hit {ok : Nat → Bool} {n k : Nat} (hk : k < n) (h : ∀ j, j < k → ok j = true) (hb : ok k = false) : search ok n = (2, (k : Int)) := by
  unfold search
  have : (List.range n).find? (fun i => !ok i) = some k := by
    rw [List.find?_eq_some_iff_append]
    refine ⟨by simp [hb], List.range k, (List.range (n - k - 1)).map (k + 1 + ·), ?_, ?_⟩
    · have e1 : List.range n = List.range (k + (n - k)) := by congr 1; omega
      have e2 : n - k = (n - k - 1) + 1 := by omega
      rw [e1, List.range_add, e2, List.range_succ_eq_map]
      simp [Function.comp_def, Nat.add_assoc, Nat.add_comm 1]
    · intro a ha
      simp [h a (List.mem_range.1 ha)]
  rw [this]
theorem search_all {ok : Nat → Bool} {n : Nat} (h : ∀ j, j < n → ok j = true) : search ok n = (0, 0) := by
  unfold search
  have : (List.range n).find? (fun i => !ok i) = none := by
    rw [List.find?_eq_none]
    intro a ha
    simp [h a (List.mem_range.1 ha)]
  rw [this]
def checkOut (ok : Nat → Bool) (n : Nat) : Int × Int := if n < 1 ∨ 400 < n then (1, 0) else search ok n
def ListAt (w : World) (ao : Option Addr) (n : Nat) (L : Nat → Nod) : Prop := 0 < n → ∃ b o, ao = some ⟨b, o, none⟩ ∧ NodesAt w b o n L
theorem ListAt.below {w w' : World} {ao : Option Addr} {n : Nat} {L : Nat → Nod} (h : ListAt w ao n L) (hb : Below w.heap.size w w') : ListAt w' ao n L := fun hn =>
  let ⟨b, o, e, g⟩ := h hn
  ⟨b, o, e, g.below hb⟩
theorem mayB_depth {L : Nat → Nod} {j : Nat} (h : mayB L j = true) : 0 ≤ (L j).d ∧ (L j).d ≤ 11 := by
  unfold mayB at h
  split at h
  · next e => subst e; simp at h; omega
  · simp [depthB] at h; omega
theorem ret_two {a b : Int} {p : Int × Int} (h : p = (a, b)) : Ending.returned (.tuple #[.int .i64 a, .int .i64 b]) = .returned (.tuple #[.int .i64 p.1, .int .i64 p.2]) := by rw [h]
theorem mayBe_is (b o n c : Nat) (L : Nat → Nod) (i : Nat) (r : Bool) (hr : mayB L i = r) (w : World) (hn : n ≤ maxLen) (hi : i < n) (h : NodesAt w b o n L) (hall : ∀ j, j < i → mayB L j = true) :
    Calls Try.prog 33 #[.slice (some ⟨b, o, none⟩) n c, .int .i64 i] w fun e w' => e = .returned (.bool r) ∧ Below w.heap.size w w' := by
  subst hr
  by_cases h0 : i = 0
  · subst h0
    exact mayBe_zero b o n c L w hn hi h
  · have hd := mayB_depth (hall (i - 1) (by omega))
    exact mayBe_next b o n c L i w hn (by omega) hi h hd.1 hd.2
set_option maxHeartbeats 400000 in
theorem treeCheck_any (ao : Option Addr) (n c : Nat) (L : Nat → Nod) (w : World) (hn : n ≤ maxLen) (h : ListAt w ao n L) :
    Calls Try.prog 23 #[.slice ao n c] w fun e w' => e = .returned (.tuple #[.int .i64 (checkOut (mayB L) n).1, .int .i64 (checkOut (mayB L) n).2]) ∧ Below w.heap.size w w' := by
  have HN := hide hn
  unfold maxLen at hn
  by_cases hb : n < 1 ∨ 400 < n
  · have HX : Hid (checkOut (mayB L) n = (1, 0)) := hide (by unfold checkOut; rw [if_pos hb])
    clear h
    rcases hb with hb | hb
    all_goals
      go_enter Try.func23, Try.ntmps23
      go_wp2
      go_ret2
      exact ⟨ret_two HX.out, Below.refl _ _⟩
  · have h1 : 1 ≤ n := by omega
    have h4 : n ≤ 400 := by omega
    have HX : Hid (checkOut (mayB L) n = search (mayB L) n) := hide (by unfold checkOut; rw [if_neg hb])
    clear hb
    obtain ⟨b, o, rfl, hL⟩ := h (by omega)
    have HL := hide hL
    clear h hL
    go_enter Try.func23, Try.ntmps23
    go_wp2
    go_loopw [4, 15] (fun _ i wr => ∃ k : Nat, k ≤ n ∧ i = .int .i64 k ∧ Hid (∀ j, j < k → mayB L j = true) ∧ Below w.heap.size w wr) (fun _ i _ => n - (intOf i).toNat)
    case atStart => exact ⟨0, Nat.zero_le _, rfl, hide (fun j h => absurd h (Nat.not_lt_zero _)), Below.refl _ _⟩
    case round =>
      obtain ⟨k, hk, rfl, hall, hbel⟩ := hrel
      by_cases hlt : k < n
      · have HL2 := hide (HL.out.below hbel)
        cases hM : mayB L k with
        | true =>
          have HS := hide (upto_step hall.out hM)
          have HM := hide hM
          clear hM
          go_wp2_with (go_at_call 33; refine (mayBe_is b o n c L k true (unhide HM) _ (unhide HN) hlt (unhide HL2) (unhide hall)).mono ?_; rintro e w2 ⟨rfl, hb2⟩)
          go_roundw
          case rel => exact ⟨k + 1, by omega, by go_num, HS, hbel.trans (hb2.mono hbel.size)⟩
          case measure => simp [intOf]; omega
        | false =>
          have HS := hide (HX.out.trans (search_hit hlt hall.out hM))
          have HM := hide hM
          clear hM
          go_wp2_with (go_at_call 33; refine (mayBe_is b o n c L k false (unhide HM) _ (unhide HN) hlt (unhide HL2) (unhide hall)).mono ?_; rintro e w2 ⟨rfl, hb2⟩)
          go_ret2
          exact ⟨ret_two HS.out, hbel.trans (hb2.mono hbel.size)⟩
      · have HS := hide (HX.out.trans (search_all fun j hj => hall.out j (by omega)))
        go_wp2
        go_ret2
        exact ⟨ret_two HS.out, hbel⟩
end Go.Proofs.Ytobgcaemnpkbmaa
namespace Go.Proofs.Ytobgcaemnpkbmaa
open Go.RowKit
def oneB (n : Nod) : Bool := elB n || txB n
theorem name_nonempty {s : ByteArray} (h : s.toList.isEmpty = true) : nameB s = false := by
  apply nameB_short
  have h2 : s.toList = [] := by simpa using h
  have h3 : s.toList.length = s.size := by rw [ByteArray.toList_eq, Array.length_toList]; rfl
  rw [h2] at h3
  simp at h3
  omega
end Go.Proofs.Ytobgcaemnpkbmaa
namespace Go.Proofs.Ytobgcaemnpkbmaa
open Go.RowKit
end Go.Proofs.Ytobgcaemnpkbmaa
namespace Go.Proofs.Ytobgcaemnpkbmaa
open Go.RowKit
def parentOf (L : Nat → Nod) (i : Nat) : Nat → Int
  | 0 => -1
  | j + 1 => if (L j).d = (L i).d - 1 then (j : Int) else parentOf L i j
end Go.Proofs.Ytobgcaemnpkbmaa
namespace Go.Proofs.Ytobgcaemnpkbmaa
open Go.RowKit
theorem last_below (f : Nat → Int) (x : Int) : ∀ i, 0 < i → f 0 < x → ∃ p, p < i ∧ f p < x ∧ ∀ j, p < j → j < i → x ≤ f j := by
  intro i
  induction i with
  | zero => intro h; exact absurd h (Nat.lt_irrefl _)
  | succ i ih =>
    intro _ h0
    by_cases hi : f i < x
    · exact ⟨i, Nat.lt_succ_self _, hi, fun j h1 h2 => by omega⟩
    · by_cases hz : i = 0
      · subst hz; exact absurd h0 hi
      · obtain ⟨p, h1, h2, h3⟩ := ih (by omega) h0
        refine ⟨p, by omega, h2, fun j g1 g2 => ?_⟩
        by_cases e : j = i
        · subst e; omega
        · exact h3 j g1 (by omega)
theorem mayB_zero {L : Nat → Nod} (h : mayB L 0 = true) : (L 0).d = 0 := by
  unfold mayB at h; rw [if_pos rfl] at h; simp at h; exact h.1
theorem mayB_step {L : Nat → Nod} {j : Nat} (h : mayB L (j + 1) = true) : (L (j + 1)).d ≤ (L j).d + 1 := by
  unfold mayB at h; rw [if_neg (by omega)] at h; simp [depthB] at h; omega
structure Par (L : Nat → Nod) (i p : Nat) : Prop where
  lt : p < i
  up : (L p).d = (L i).d - 1
  deep : ∀ j, p < j → j < i → (L i).d ≤ (L j).d
theorem par_of {L : Nat → Nod} {i : Nat} (h0 : 0 < i) (hall : ∀ j, j < i → mayB L j = true) (h1 : 1 ≤ (L i).d) (h2 : (L i).d ≤ (L (i - 1)).d + 1) : ∃ p, Par L i p := by
  obtain ⟨p, g1, g2, g3⟩ := last_below (fun j => (L j).d) (L i).d i h0 (by show (L 0).d < _; have := mayB_zero (hall 0 h0); omega)
  refine ⟨p, g1, ?_, g3⟩
  have g2 : (L p).d < (L i).d := g2
  by_cases e : p + 1 = i
  · have : i - 1 = p := by omega
    rw [this] at h2; omega
  · have a := mayB_step (hall (p + 1) (by omega))
    have b := g3 (p + 1) (by omega) (by omega)
    have b : (L i).d ≤ (L (p + 1)).d := b
    omega
theorem Par.parent {L : Nat → Nod} {i p : Nat} (h : Par L i p) : parentOf L i i = p := by
  have aux : ∀ m, p < m → m ≤ i → parentOf L i m = p := by
    intro m
    induction m with
    | zero => intro h; omega
    | succ m ih =>
      intro g1 g2
      by_cases e : m = p
      · subst e; rw [parentOf, if_pos h.up]
      · have := h.deep m (by omega) (by omega)
        rw [parentOf, if_neg (by omega)]
        exact ih (by omega) (by omega)
  exact aux i h.lt (Nat.le_refl _)
theorem Par.back {L : Nat → Nod} {i p : Nat} (h : Par L i p) : ∀ m, p < m → m ≤ i → (∀ j, m ≤ j → j < i → ¬ ((L i).k ≠ 0 ∧ (L j).d = (L i).d ∧ (L j).k = (L i).k)) → goBack L i i = goBack L i m := by
  intro m h1 h2 h3
  have aux : ∀ t, m ≤ t → t ≤ i → goBack L i t = goBack L i m := by
    intro t
    induction t with
    | zero => intro a b; omega
    | succ t ih =>
      intro a b
      by_cases e : m = t + 1
      · rw [e]
      · have := h.deep t (by omega) (by omega)
        rw [goBack_on (by omega) (h3 t (by omega) (by omega))]
        exact ih (by omega) (by omega)
  exact aux i h2 (Nat.le_refl _)
theorem Par.good {L : Nat → Nod} {i p : Nat} (h : Par L i p) (h3 : ∀ j, p < j → j < i → ¬ ((L i).k ≠ 0 ∧ (L j).d = (L i).d ∧ (L j).k = (L i).k)) : goBack L i i = !(L p).t.toList.isEmpty := by
  rw [h.back (p + 1) (by omega) h.lt (fun j a b => h3 j (by omega) b), goBack_up]
  have := h.up; omega
theorem Par.bad {L : Nat → Nod} {i p j : Nat} (h : Par L i p) (h1 : p < j) (h2 : j < i) (h3 : (L i).k ≠ 0 ∧ (L j).d = (L i).d ∧ (L j).k = (L i).k) : goBack L i i = false := by
  have aux : ∀ t, j < t → t ≤ i → goBack L i t = false := by
    intro t
    induction t with
    | zero => intro a; omega
    | succ t ih =>
      intro a b
      have hd := h.deep t (by omega) (by omega)
      by_cases c : (L i).k ≠ 0 ∧ (L t).d = (L i).d ∧ (L t).k = (L i).k
      · exact goBack_same (by omega) c.1 c.2.1 c.2.2
      · rw [goBack_on (by omega) c]
        by_cases e : t = j
        · subst e; exact absurd h3 c
        · exact ih (by omega) (by omega)
  exact aux i h2 (Nat.le_refl _)
theorem Par.text {L : Nat → Nod} {i p : Nat} (h : Par L i p) (ht : (L p).t.toList.isEmpty = true) : goBack L i i = false := by
  by_cases c : ∃ j, p < j ∧ j < i ∧ ((L i).k ≠ 0 ∧ (L j).d = (L i).d ∧ (L j).k = (L i).k)
  · obtain ⟨j, h1, h2, h3⟩ := c
    exact h.bad h1 h2 h3
  · rw [h.good (fun j a b d => c ⟨j, a, b, d⟩), ht]; rfl
end Go.Proofs.Ytobgcaemnpkbmaa
namespace Go.Proofs.Ytobgcaemnpkbmaa
open Go.RowKit
structure BoxAt (w : World) (b : Nat) (n : Nod) : Prop where
  lt : b < w.heap.size
  c0 : w.cell? ⟨b, 0, none⟩ = some (.int .i64 n.d)
  c1 : w.cell? ⟨b, 1, none⟩ = some (.string n.t)
  c2 : w.cell? ⟨b, 2, none⟩ = some (.int .i64 n.k)
theorem BoxAt.below {w w' : World} {b : Nat} {n : Nod} (h : BoxAt w b n) (hb : Below w.heap.size w w') : BoxAt w' b n :=
  ⟨Nat.lt_of_lt_of_le h.lt hb.size, (hb.cell (p := ⟨b, _, none⟩) h.lt).trans h.c0, (hb.cell (p := ⟨b, _, none⟩) h.lt).trans h.c1, (hb.cell (p := ⟨b, _, none⟩) h.lt).trans h.c2⟩
end Go.Proofs.Ytobgcaemnpkbmaa
namespace Go.Proofs.Ytobgcaemnpkbmaa
open Go.RowKit
end Go.Proofs.Ytobgcaemnpkbmaa
