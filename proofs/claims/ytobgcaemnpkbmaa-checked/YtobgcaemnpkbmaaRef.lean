/-
  What the reference's 'Check' answers of a list.
-/
import Derived.Test.YtobgcaemnpkbmaaTree
namespace Go.Proofs.Ytobgcaemnpkbmaa
open Go.RowKit

theorem single_is (n : Nod) (r : Bool) (hr : oneB n = r) (w : World) (h : n.Ok w) :
    Calls Try.prog 25 #[.agg #[.int .i64 n.d, .string n.t, .int .i64 n.k, .slice n.ao n.an n.ac, .string n.x]] w fun e w' => e = .returned (.bool r) ∧ Below w.heap.size w w' := by
  subst hr; exact single_any n w h
theorem parent_is (b o n c : Nat) (L : Nat → Nod) (i p : Nat) (hp : Par L i p) (w : World) (hn : n ≤ maxLen) (hi : i < n) (h : NodesAt w b o n L) (hd1 : 1 ≤ (L i).d) (hd2 : (L i).d ≤ 11) :
    Calls Try.prog 26 #[.slice (some ⟨b, o, none⟩) n c, .int .i64 i] w fun e w' => e = .returned (.int .i64 p) ∧ Below w.heap.size w w' := by
  rw [← hp.parent]; exact parent_any b o n c L i w hn hi h hd1 hd2

/-- A node in a block of its own. -/
structure BoxAt (w : World) (b : Nat) (n : Nod) : Prop where
  lt : b < w.heap.size
  c0 : w.cell? ⟨b, 0, none⟩ = some (.int .i64 n.d)
  c1 : w.cell? ⟨b, 1, none⟩ = some (.string n.t)
  c2 : w.cell? ⟨b, 2, none⟩ = some (.int .i64 n.k)
theorem BoxAt.below {w w' : World} {b : Nat} {n : Nod} (h : BoxAt w b n) (hb : Below w.heap.size w w') : BoxAt w' b n :=
  ⟨Nat.lt_of_lt_of_le h.lt hb.size, (hb.cell (p := ⟨b, _, none⟩) h.lt).trans h.c0, (hb.cell (p := ⟨b, _, none⟩) h.lt).trans h.c1, (hb.cell (p := ⟨b, _, none⟩) h.lt).trans h.c2⟩
theorem boxAt_new (w : World) (n : Nod) (t : TypeId) : BoxAt (w.alloc (.cells #[.int .i64 n.d, .string n.t, .int .i64 n.k, .slice n.ao n.an n.ac, .string n.x] t)) w.heap.size n :=
  ⟨by simp, by simp [go_sem], by simp [go_sem], by simp [go_sem]⟩

theorem not_step {Q : Nat → Prop} {p m : Nat} (h : ∀ j, p < j → j < m → ¬ Q j) (hm : ¬ Q m) : ∀ j, p < j → j < m + 1 → ¬ Q j := by
  intro j h1 h2
  by_cases e : j = m
  · subst e; exact hm
  · exact h j h1 (by omega)

set_option maxRecDepth 100000 in
set_option maxHeartbeats 1000000 in
theorem refCheck_any (ao : Option Addr) (n c : Nat) (L : Nat → Nod) (w : World) (hn : n ≤ maxLen) (h : ListAt w ao n L) :
    Calls Try.prog 11 #[.slice ao n c] w fun e w' => e = .returned (.tuple #[.int .i64 (checkOut (mayB L) n).1, .int .i64 (checkOut (mayB L) n).2]) ∧ Below w.heap.size w w' := by
  have HN := hide hn
  unfold maxLen at hn
  by_cases hb : n < 1 ∨ 400 < n
  · have HX : Hid (checkOut (mayB L) n = (1, 0)) := hide (by unfold checkOut; rw [if_pos hb])
    clear h
    rcases hb with hb | hb
    all_goals
      go_enter Try.func11, Try.ntmps11
      go_wp2
      go_ret2
      exact ⟨ret_two HX.out, Below.refl _ _⟩
  · have h1 : 1 ≤ n := by omega
    have h4 : n ≤ 400 := by omega
    have HX : Hid (checkOut (mayB L) n = search (mayB L) n) := hide (by unfold checkOut; rw [if_neg hb])
    clear hb
    obtain ⟨b, o, rfl, hL⟩ := h (by omega)
    have HL := hide hL
    clear h hL
    go_enter Try.func11, Try.ntmps11
    go_wp2
    go_loopw [4, 5, 6, 7, 8] (fun i _ _ _ _ wr => ∃ k : Nat, k ≤ n ∧ i = .int .i64 k ∧ Hid (∀ j, j < k → mayB L j = true) ∧ Below w.heap.size w wr) (fun i _ _ _ _ _ => n - (intOf i).toNat)
    case atStart => exact ⟨0, Nat.zero_le _, rfl, hide (fun j h => absurd h (Nat.not_lt_zero _)), Below.refl _ _⟩
    case round =>
      obtain ⟨k, hk, rfl, hall, hbel⟩ := hrel
      by_cases hlt : k < n
      · have HL1 := hide (HL.out.below hbel)
        obtain ⟨c0, c1, c2, c3, c4, hok⟩ := HL1.out.node k hlt
        have HO := hide hok
        clear hok
        have hal : Below wr.heap.size wr (wr.alloc (.cells #[.int .i64 (L k).d, .string (L k).t, .int .i64 (L k).k, .slice (L k).ao (L k).an (L k).ac, .string (L k).x] 28)) := (Below.refl _ _).alloc (Nat.le_refl _) _
        have hbox := boxAt_new wr (L k) 28
        by_cases h0 : k = 0
        · subst h0
          simp only [Nat.zero_mul, Nat.add_zero] at c0 c1 c2 c3 c4
          cases hM : mayB L 0 with
          | true =>
            have hM' := hM
            rw [mayB_first] at hM'
            have hO : oneB (L 0) = true := by simp at hM'; exact hM'.1.1
            have hd : ((L 0).d != 0) = false := by simp at hM'; simp [hM'.1.2]
            have ht : (L 0).t.toList.isEmpty = false := by simp at hM'; simpa using hM'.2
            have HS := hide (upto_step hall.out hM)
            have H1 := hide hO
            clear hM hM' hO
            go_wp2_with fail
            refine (single_is (L 0) true (unhide H1) _ ((unhide HO).below hal)).mono ?_
            rintro e w2 ⟨rfl, hb2⟩
            obtain ⟨_, x0, x1, x2⟩ := hbox.below hb2
            go_wp2
            go_roundw
            case rel => exact ⟨1, by omega, by go_num, HS, hbel.trans ((hal.trans (hb2.mono (by simp))).mono hbel.size)⟩
            case measure => simp [intOf]; omega
          | false =>
            have HS := hide (HX.out.trans (search_hit hlt hall.out hM))
            rw [mayB_first] at hM
            cases hO : oneB (L 0) with
            | false =>
              have H1 := hide hO
              clear hM hO
              go_wp2_with fail
              refine (single_is (L 0) false (unhide H1) _ ((unhide HO).below hal)).mono ?_
              rintro e w2 ⟨rfl, hb2⟩
              obtain ⟨_, x0, x1, x2⟩ := hbox.below hb2
              go_wp2
              go_ret2
              exact ⟨ret_two HS.out, hbel.trans ((hal.trans (hb2.mono (by simp))).mono hbel.size)⟩
            | true =>
              have H1 := hide hO
              by_cases hd0 : (L 0).d = 0
              · have hd : ((L 0).d != 0) = false := by simp [hd0]
                have ht : (L 0).t.toList.isEmpty = true := by rw [hO, decide_eq_true hd0] at hM; simpa using hM
                clear hM hO hd0
                go_wp2_with fail
                refine (single_is (L 0) true (unhide H1) _ ((unhide HO).below hal)).mono ?_
                rintro e w2 ⟨rfl, hb2⟩
                obtain ⟨_, x0, x1, x2⟩ := hbox.below hb2
                go_wp2
                go_ret2
                exact ⟨ret_two HS.out, hbel.trans ((hal.trans (hb2.mono (by simp))).mono hbel.size)⟩
              · have hd : ((L 0).d != 0) = true := by simp [hd0]
                clear hM hO hd0
                go_wp2_with fail
                refine (single_is (L 0) true (unhide H1) _ ((unhide HO).below hal)).mono ?_
                rintro e w2 ⟨rfl, hb2⟩
                obtain ⟨_, x0, x1, x2⟩ := hbox.below hb2
                go_wp2
                go_ret2
                exact ⟨ret_two HS.out, hbel.trans ((hal.trans (hb2.mono (by simp))).mono hbel.size)⟩
        · have ib : ((k : Int) == 0) = false := by simp; omega
          have hdp := mayB_depth (hall.out (k - 1) (by omega))
          obtain ⟨hdp0, hdp1⟩ := hdp
          cases hO : oneB (L k) with
          | false =>
            have HS := hide (HX.out.trans (search_hit hlt hall.out (by rw [mayB_later (by omega), hO]; rfl)))
            have H1 := hide hO
            clear hO
            go_wp2_with fail
            refine (single_is (L k) false (unhide H1) _ ((unhide HO).below hal)).mono ?_
            rintro e w2 ⟨rfl, hb2⟩
            obtain ⟨_, x0, x1, x2⟩ := hbox.below hb2
            go_wp2
            go_big_quiet (fail)
            go_wp2
            go_ret2
            exact ⟨ret_two HS.out, drewN_of (hbel.trans ((hal.trans (hb2.mono (by simp))).mono hbel.size)) _⟩
          | true =>
            have H1 := hide hO
            cases hD : depthB (L (k - 1)).d (L k).d with
            | false =>
              have HS := hide (HX.out.trans (search_hit hlt hall.out (by rw [mayB_later (by omega), hD]; simp)))
              clear hO
              go_wp2_with fail
              refine (single_is (L k) true (unhide H1) _ ((unhide HO).below hal)).mono ?_
              rintro e w2 ⟨rfl, hb2⟩
              have hw2 := hal.trans (hb2.mono (by simp))
              obtain ⟨_, x0, x1, x2⟩ := hbox.below hb2
              have a0 := ((HL1.out.below hw2).node (k - 1) (by omega)).c0
              by_cases g1 : (L k).d < 1
              · clear hD
                go_wp2
                go_big_quiet (fail)
                go_wp2
                go_ret2
                exact ⟨ret_two HS.out, drewN_of (hbel.trans (hw2.mono hbel.size)) _⟩
              · have g1b : decide ((L k).d < 1) = false := by simpa using g1
                by_cases g2 : (L (k - 1)).d + 1 < (L k).d
                · clear hD g1
                  go_wp2
                  go_big_quiet (fail)
                  go_wp2
                  go_ret2
                  exact ⟨ret_two HS.out, drewN_of (hbel.trans (hw2.mono hbel.size)) _⟩
                · have g2b : decide ((L (k - 1)).d + 1 < (L k).d) = false := by simpa using g2
                  have g3 : 12 ≤ (L k).d := by
                    apply Classical.byContradiction
                    intro hc
                    rw [depthB_4 (by omega) (by omega) (by omega)] at hD
                    cases hD
                  clear hD g1 g2
                  go_wp2
                  go_big_quiet (fail)
                  go_wp2
                  go_ret2
                  exact ⟨ret_two HS.out, drewN_of (hbel.trans (hw2.mono hbel.size)) _⟩
            | true =>
              have hd1 : 1 ≤ (L k).d := by unfold depthB at hD; simp at hD; omega
              have hd2 : (L k).d ≤ (L (k - 1)).d + 1 := by unfold depthB at hD; simp at hD; omega
              have hd3 : (L k).d ≤ 11 := by unfold depthB at hD; simp at hD; omega
              obtain ⟨p, hp⟩ := par_of (by omega) hall.out hd1 hd2
              have hpk := hp.lt
              have HP := hide hp
              have HM := hide (show mayB L k = goBack L k k by rw [mayB_later (by omega), hO, hD]; rfl)
              have hkey := oneB_key hO
              have g1b : decide ((L k).d < 1) = false := by simp; omega
              have g2b : decide ((L (k - 1)).d + 1 < (L k).d) = false := by simp; omega
              have g3b : decide ((12 : Int) ≤ (L k).d) = false := by simp; omega
              clear hO hD hp
              go_wp2_with fail
              refine (single_is (L k) true (unhide H1) _ ((unhide HO).below hal)).mono ?_
              rintro e w2 ⟨rfl, hb2⟩
              have hw2 := hal.trans (hb2.mono (by simp))
              have hbx2 := hbox.below hb2
              have HL2 := hide (HL1.out.below hw2)
              have x0 := hbx2.c0
              have x1 := hbx2.c1
              have x2 := hbx2.c2
              have a0 := (HL2.out.node (k - 1) (by omega)).c0
              clear hbox c0 c1 c2 c3 c4
              go_wp2
              go_big_quiet (fail)
              go_wp2_with fail
              refine (parent_is b o n c L k p (unhide HP) _ (unhide HN) hlt ((unhide HL2).below (drewN_of (Below.refl _ _) _)) hd1 hd3).mono ?_
              rintro e w3 ⟨rfl, hb3⟩
              have hw3 := drewN_of (Below.refl w2.heap.size w2) nq
              have hb23 := hw3.trans (hb3.mono (Nat.le_refl _))
              have HL3 := hide (HL2.out.below hb23)
              have hbx3 := hbx2.below hb23
              clear x0 x1 x2 a0 hbx2
              have x0 := hbx3.c0
              have x2 := hbx3.c2
              have p1 := (HL3.out.node p (by omega)).c1
              have fin3 : Below w.heap.size w w3 := hbel.trans ((hw2.mono hbel.size).trans (hb23.mono (Nat.le_trans hbel.size hw2.size)))
              clear hw3 hb23 hb3 hw2 hal hb2 HL2 HL1 HO
              cases ht : (L p).t.toList.isEmpty with
              | true =>
                have HS := hide (HX.out.trans (search_hit hlt hall.out (HM.out.trans (HP.out.text ht))))
                go_wp2
                go_ret2
                exact ⟨ret_two HS.out, fin3⟩
              | false =>
                go_wp2
                go_loopw [8] (fun i wr => ∃ m q : Nat, p < m ∧ m ≤ k ∧ i = .int .i64 m ∧ Hid (∀ j, p < j → j < m → ¬ ((L k).k ≠ 0 ∧ (L j).d = (L k).d ∧ (L j).k = (L k).k)) ∧ wr = w3.drewN q) (fun i _ => k - (intOf i).toNat)
                case atStart => exact ⟨p + 1, 0, by omega, by omega, by go_num, hide (fun j h h' => by omega), rfl⟩
                case round =>
                  obtain ⟨m, q, hpm, hmk, rfl, hno, rfl⟩ := hrel
                  by_cases hmk2 : m < k
                  · by_cases hkp : 0 < (L k).k
                    · have y0 := (HL3.out.node m (by omega)).c0
                      have y2 := (HL3.out.node m (by omega)).c2
                      by_cases hd : (L m).d = (L k).d
                      · have db : ((L m).d == (L k).d) = true := by simp [hd]
                        by_cases hkk : (L m).k = (L k).k
                        · have kb : ((L m).k == (L k).k) = true := by simp [hkk]
                          have HS := hide (HX.out.trans (search_hit hlt hall.out (HM.out.trans (HP.out.bad hpm hmk2 ⟨by omega, hd, hkk⟩))))
                          clear hd hkk
                          go_wp2
                          go_big_quiet (fail)
                          go_wp2
                          go_ret2
                          exact ⟨ret_two HS.out, drewN_of (drewN_of fin3 _) _⟩
                        · have kb : ((L m).k == (L k).k) = false := by simp [hkk]
                          have HS := hide (not_step hno.out (p := p) (m := m) (fun h => hkk h.2.2))
                          clear hd hkk
                          go_wp2
                          go_big_quiet (fail)
                          go_wp2
                          go_roundw
                          case rel => exact ⟨m + 1, _, by omega, by omega, by go_num, HS, rfl⟩
                          case measure => simp [intOf]; omega
                      · have db : ((L m).d == (L k).d) = false := by simp [hd]
                        have HS := hide (not_step hno.out (p := p) (m := m) (fun h => hd h.2.1))
                        clear hd
                        go_wp2
                        go_big_quiet (fail)
                        go_wp2
                        go_roundw
                        case rel => exact ⟨m + 1, _, by omega, by omega, by go_num, HS, rfl⟩
                        case measure => simp [intOf]; omega
                    · have HS := hide (upto_step hall.out (HM.out.trans ((HP.out.good (fun j _ _ h => h.1 (by omega))).trans (by rw [ht]; rfl))))
                      go_wp2
                      go_roundw
                      case rel => exact ⟨k + 1, by omega, by go_num, HS, drewN_of fin3 _⟩
                      case measure => simp [intOf]; omega
                  · have HS := hide (upto_step hall.out (HM.out.trans ((HP.out.good (fun j a b => hno.out j a (by omega))).trans (by rw [ht]; rfl))))
                    go_wp2
                    go_roundw
                    case rel => exact ⟨k + 1, by omega, by go_num, HS, drewN_of fin3 _⟩
                    case measure => simp [intOf]; omega
      · have HS := hide (HX.out.trans (search_all fun j hj => hall.out j (by omega)))
        go_wp2
        go_ret2
        exact ⟨ret_two HS.out, hbel⟩

end Go.Proofs.Ytobgcaemnpkbmaa
