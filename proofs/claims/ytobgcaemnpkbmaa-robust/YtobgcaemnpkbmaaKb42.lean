/- Hg -/
import Derived.Test.YtobgcaemnpkbmaaKb41
namespace Go.Proofs.Ytobgcaemnpkbmaa
open Go.RowKit
theorem runs_stop (R : List RN) (l : Int) (X : Nat → Pat) : ∀ m, ∃ k, k ≤ m ∧ RunsTo R l X k ∧ (k = m ∨ canP (runP R l X k).1 (runP R l X k).2 (X k) = false)
  | 0 => ⟨0, Nat.le_refl _, RunsTo.zero R l X, .inl rfl⟩
  | m + 1 => by
    obtain ⟨k, hk, hr, h⟩ := runs_stop R l X m
    rcases h with rfl | h
    · cases hc : canP (runP R l X k).1 (runP R l X k).2 (X k) with
      | true => exact ⟨k + 1, Nat.le_refl _, hr.succ hc, .inl rfl⟩
      | false => exact ⟨k, by omega, hr, .inr hc⟩
    · exact ⟨k, by omega, hr, .inr h⟩
theorem two_allk (w0 w : World) (d1 d2 : Nat) (R1 R2 : List RN) (l1 l2 : Int) (h : Two w0 w d1 d2 R1 R2 l1 l2) (ao : Option Addr) (n c : Nat) (X : Nat → Pat) (hl : l1 + n ≤ 4611686018427387904) (hn : n ≤ 2199023255552) (hX : PListAt w0 ao n X) (hx : ∀ i, i < n → (X i).Ok ∧ (X i).Ints)
    (k : Nat) (hk : k ≤ n) (hr : RunsTo R1 l1 X k) (hs : k = n ∨ canP (runP R1 l1 X k).1 (runP R1 l1 X k).2 (X k) = false) :
    Calls Try.prog 15 #[.pointer (some ⟨d1, 0, none⟩), .slice ao n c] w fun e w' => e = .returned (.tuple #[.int .i64 (if k = n then 0 else 4), .int .i64 (if k = n then 0 else k)]) ∧ Two w0 w' d1 d2 (runP R1 l1 X k).1 R2 (runP R1 l1 X k).2 l2 := by
  refine (two_all w0 w d1 d2 R1 R2 l1 l2 h ao n c X hl hn hX hx).mono ?_
  rintro e w' ⟨x, y, rfl, k', hk', hr', hT, hout⟩
  have e0 : k' = k := by
    rcases Nat.lt_trichotomy k' k with h1 | h1 | h1
    · rcases hout with ⟨h2, _⟩ | ⟨_, h2, _⟩
      · omega
      · rw [hr k' h1] at h2; cases h2
    · exact h1
    · rcases hs with h2 | h2
      · omega
      · rw [hr' k h1] at h2; cases h2
  subst e0
  rcases hout with ⟨rfl, rfl, rfl⟩ | ⟨h1, _, rfl, rfl⟩
  · rw [if_pos rfl, if_pos rfl]; exact ⟨rfl, hT⟩
  · rw [if_neg (by omega), if_neg (by omega)]; exact ⟨rfl, hT⟩
theorem ids_ptr {w1 w' : World} {e : Ending} {W : List Int} (h0 : 0 < W.length) (h : ∃ ao c, e = .returned (.slice ao W.length c) ∧ w'.ownsRow w1.heap.size 3 1 (.slice ao W.length c) W.length (ints W) ∧ Below w1.heap.size w1 w') :
    ∃ g c, e = .returned (.slice (some ⟨g, 0, none⟩) W.length c) ∧ w'.ownsRow w1.heap.size 3 1 (.slice (some ⟨g, 0, none⟩) W.length c) W.length (ints W) ∧ Below w1.heap.size w1 w' := by
  obtain ⟨ao, c, h1, h2, h3⟩ := h
  obtain ⟨g, _, rfl, _⟩ := row_at h2 h0
  exact ⟨g, c, h1, h2, h3⟩
theorem wid_cell {w : World} {B g c : Nat} {W : List Int} (h : w.ownsRow B 3 1 (.slice (some ⟨g, 0, none⟩) W.length c) W.length (ints W)) {j : Nat} (hj : j < W.length) : w.cell? ⟨g, j, none⟩ = some (.int .i64 (W.getD j 0)) := by
  obtain ⟨g', hl, e, _, hc⟩ := row_at h hj
  cases e
  rw [hc, List.getD_eq_getElem?_getD, List.getElem?_eq_getElem hj]
  simp [ints]
theorem wid_head {w : World} {B g c : Nat} {W : List Int} (h : w.ownsRow B 3 1 (.slice (some ⟨g, 0, none⟩) W.length c) W.length (ints W)) (h0 : 0 < W.length) (h1 : W.getD 0 0 = 1) : w.cell? ⟨g, 0, none⟩ = some (.int .i64 1) := by
  rw [wid_cell h h0, h1]
set_option maxHeartbeats 2000000 in
set_option maxRecDepth 100000 in
theorem robust_full (b o n c : Nat) (L : Nat → Nod) (po : Option Addr) (m pc : Nat) (X : Nat → Pat) (w : World) (hn : n ≤ maxLen) (hL : ListAt w (some ⟨b, o, none⟩) n L) (hz : (checkOut (mayB L) n).1 = 0) (hm : m ≤ 2199023255552) (hX : PListAt w po m X) (hx : ∀ i, i < m → (X i).Ok ∧ (X i).Ints) (hr : RunsTo (madeR L n) n X m) :
    Calls Try.prog 4 #[.slice (some ⟨b, o, none⟩) n c, .slice po m pc] w fun e w' => e = .returned (.bool true) ∧ Below w.heap.size w w' := by
  have hn4 := (check_none hz).2.2.1
  have HK := hide (known_any w)
  have HN1 : Hid (∀ w1, Below w.heap.size w w1 → Calls Try.prog 14 #[.slice (some ⟨b, o, none⟩) n c] w1 fun e w' => ∃ d1, e = .returned (.tuple #[.pointer (some ⟨d1, 0, none⟩), .int .i64 0, .int .i64 0]) ∧ ∃ ρ nb mb q, DomAt ρ nb mb q d1 w' (madeR L n) n ∧ Below w.heap.size w w' ∧ ∀ b, (ρ b).isSome = true → w.heap.size ≤ b) := hide fun w1 hb => (dnew_ok b o n c L w1 hn (hL.below hb) hz).mono fun _ _ ⟨ρ, nb, mb, q, db, h1, h2, h3, h4, h5⟩ => ⟨db, h1, ρ, nb, mb, q, h4, hb.trans (h5.mono hb.size), fun b e => Nat.le_trans hb.size (h3 b e)⟩
  have HN2 : Hid (∀ w1 d1, (∃ ρ nb mb q, DomAt ρ nb mb q d1 w1 (madeR L n) n ∧ Below w.heap.size w w1 ∧ ∀ b, (ρ b).isSome = true → w.heap.size ≤ b) → Calls Try.prog 14 #[.slice (some ⟨b, o, none⟩) n c] w1 fun e w' => ∃ d2, e = .returned (.tuple #[.pointer (some ⟨d2, 0, none⟩), .int .i64 0, .int .i64 0]) ∧ Two w w' d1 d2 (madeR L n) (madeR L n) n n) := hide fun w1 d1 ⟨ρ, nb, mb, q, g1, hb, g3⟩ => (dnew_ok b o n c L w1 hn (hL.below hb) hz).mono fun _ _ ⟨ρ', nb', mb', q', db, h1, h2, h3, h4, h5⟩ => ⟨db, h1, two_new g1 hb g3 h4 h5 h3 h2⟩
  have HA : Hid (∀ w1 d1 d2, Two w w1 d1 d2 (madeR L n) (madeR L n) n n → Calls Try.prog 15 #[.pointer (some ⟨d1, 0, none⟩), .slice po m pc] w1 fun e w' => e = .returned (.tuple #[.int .i64 0, .int .i64 0]) ∧ Two w w' d1 d2 (runP (madeR L n) n X m).1 (madeR L n) (runP (madeR L n) n X m).2 n) := hide fun w1 d1 d2 h => by
    have := two_allk w w1 d1 d2 (madeR L n) (madeR L n) n n h po m pc X (by omega) hm hX hx m (Nat.le_refl _) hr (.inl rfl)
    rw [if_pos rfl, if_pos rfl] at this
    exact this
  have HX := hide hX
  have HXx := hide hx
  have HR := hide hr
  clear hL hn hX hx hr
  have hln : (n : Int) ≤ 400 := by omega
  generalize madeR L n = R at *
  generalize (n : Int) = ln at *
  go_enter Try.func4, Try.ntmps4
  go_wp2_with (first | (go_at_call 13; refine (unhide HK).mono ?_; rintro e w1 ⟨rfl, hb1⟩; have HB := hide hb1; clear hb1) | (go_at_call 14; refine (unhide HN2 _ _ HO.out).mono ?_; rintro e w3 ⟨d2, rfl, hT⟩; have HT := hide hT; clear hT) | (go_at_call 14; refine (unhide HN1 _ HB.out).mono ?_; rintro e w2 ⟨d1, rfl, hO⟩; have HO := hide hO; clear hO) | (go_at_call 15; refine (unhide HA _ _ _ HT.out).mono ?_; rintro e w4 ⟨rfl, hT4⟩; have HT4 := hide hT4; clear hT4))
  have HLn : Hid (∀ j, j ≤ m → (runP R ln X j).2 + 1 ≤ 4611686018427387904) := hide fun j hj => by
    obtain ⟨g1, g2, _⟩ := two_doc HT.out
    have := (RunsTo.ok g1 g2 (k := j) (fun i hi => HR.out i (by omega))).2.2
    omega
  clear HK HN1 HN2 HA HO HB
  go_loopw [15, 16, 17] (fun i _ _ wr => ∃ j : Nat, i = .int .i64 (j : Int) ∧ j ≤ m ∧ Hid (Two w wr d1 d2 (runP R ln X m).1 (runP R ln X j).1 (runP R ln X m).2 (runP R ln X j).2)) (fun i _ _ _ => m - (intOf i).toNat)
  case atStart => exact ⟨0, rfl, Nat.zero_le _, HT4⟩
  case round =>
    obtain ⟨j, rfl, hj, hE⟩ := hrel
    by_cases hlt : j < m
    · obtain ⟨pb, po', rfl, hP⟩ := HX.out (by omega)
      have hbw := hE.out.bel
      have lp := hP.lt
      have lp2 : pb < wr.heap.size := Nat.lt_of_lt_of_le lp hbw.size
      have cell : ∀ r, r < 8 → wr.cell? ⟨pb, po' + j * 8 + r, none⟩ = some (patCell (X j) r) := fun r hr => by
        rw [hbw.cell (p := ⟨pb, _, none⟩) lp, Nat.add_assoc, hP.cell (j * 8 + r) (by omega), patsCell_at X j r hr]
      have c0 : wr.cell? ⟨pb, po' + j * 8, none⟩ = some (.int .i64 (X j).kind) := cell 0 (by omega)
      have c1 : wr.cell? ⟨pb, po' + j * 8 + 1, none⟩ = some (.int .i64 (X j).id) := cell 1 (by omega)
      have c2 : wr.cell? ⟨pb, po' + j * 8 + 2, none⟩ = some (.int .i64 (X j).par) := cell 2 (by omega)
      have c3 : wr.cell? ⟨pb, po' + j * 8 + 3, none⟩ = some (.int .i64 (X j).bef) := cell 3 (by omega)
      have c4 : wr.cell? ⟨pb, po' + j * 8 + 4, none⟩ = some (.int .i64 (X j).key) := cell 4 (by omega)
      have c5 : wr.cell? ⟨pb, po' + j * 8 + 5, none⟩ = some (.string (X j).tag) := cell 5 (by omega)
      have c6 : wr.cell? ⟨pb, po' + j * 8 + 6, none⟩ = some (.string (X j).name) := cell 6 (by omega)
      have c7 : wr.cell? ⟨pb, po' + j * 8 + 7, none⟩ = some (.string (X j).text) := cell 7 (by omega)
      have HC := two_patch w wr d1 d2 _ _ _ _ hE.out (X j) (HLn.out j hj) (HXx.out j hlt) true (HR.out j hlt)
      rw [if_pos rfl, if_pos rfl, if_pos rfl] at HC
      have HCh := hide HC
      clear cell hP hbw HC hE
      generalize hxj : X j = x at c0 c1 c2 c3 c4 c5 c6 c7 HCh ⊢
      go_wp2_with (first | (go_at_call 15; refine (unhide HCh).mono ?_; rintro e x3 ⟨rfl, hT3⟩; have HT3 := hide hT3; clear hT3))
      go_roundw
      case rel => exact ⟨j + 1, by go_num, hlt, hide (by have h3 := HT3.out; rw [← hxj] at h3; exact h3)⟩
      case measure => simp [intOf]; omega
    · have hTm := hE.out
      have hjm : j = m := by omega
      rw [hjm] at hTm ⊢
      have hj' := hjm
      clear hE HT4 HT HLn HR HXx hj' 
      generalize (runP R ln X m).1 = Rm at hTm
      generalize (runP R ln X m).2 = lm at hTm
      subst hjm
      obtain ⟨hok, _, hfew⟩ := two_doc hTm
      obtain ⟨r, hr, hr1, _⟩ := root_at hok
      obtain ⟨f1, f2, f3, f4, f5⟩ := wid_facts hok hr hr1
      have HI : Hid (∀ d, d = d1 ∨ d = d2 → ∀ w1, Below wr.heap.size wr w1 → Calls Try.prog 16 #[.pointer (some ⟨d, 0, none⟩)] w1 fun e w' => ∃ g c, e = .returned (.slice (some ⟨g, 0, none⟩) (widP Rm Rm.length r).length c) ∧ w'.ownsRow w1.heap.size 3 1 (.slice (some ⟨g, 0, none⟩) (widP Rm Rm.length r).length c) (widP Rm Rm.length r).length (ints (widP Rm Rm.length r)) ∧ Below w1.heap.size w1 w') := hide fun d hd w1 hb => by
        rcases hd with rfl | rfl
        · exact (two_ids1 w wr w1 _ _ Rm Rm lm lm hTm hb r hr hr1).mono fun _ _ h => ids_ptr f3 h
        · exact (two_ids1 w wr w1 _ _ Rm Rm lm lm (two_swap hTm) hb r hr hr1).mono fun _ _ h => ids_ptr f3 h
      have HTr : Hid (∀ d, d = d1 ∨ d = d2 → ∀ w1, Below wr.heap.size wr w1 → Calls Try.prog 18 #[.pointer (some ⟨d, 0, none⟩)] w1 fun e w' => ∃ ao c N, e = .returned (.slice ao (widP Rm Rm.length r).length c) ∧ ListAt w' ao (widP Rm Rm.length r).length (nodsK N) ∧ TellL Rm (walkP Rm Rm.length r 0) N ∧ (∀ n, n ∈ N → n.an = n.ats.length) ∧ Below w1.heap.size w1 w') := hide fun d hd w1 hb => by
        rw [f1]
        rcases hd with rfl | rfl
        · exact two_tree1 w wr w1 _ _ Rm Rm lm lm hTm hb r hr hr1
        · exact two_tree1 w wr w1 _ _ Rm Rm lm lm (two_swap hTm) hb r hr hr1
      have HLo : Hid (∀ d, d = d1 ∨ d = d2 → ∀ w1, Below wr.heap.size wr w1 → Calls Try.prog 19 #[.pointer (some ⟨d, 0, none⟩)] w1 fun e w' => e = .returned (.int .i64 ((Rm.length : Int) - ((widP Rm Rm.length r).length : Int))) ∧ Below w1.heap.size w1 w') := hide fun d hd w1 hb => by
        rcases hd with rfl | rfl
        · exact two_loose1 w wr w1 _ _ Rm Rm lm lm hTm hb r hr hr1
        · exact two_loose1 w wr w1 _ _ Rm Rm lm lm (two_swap hTm) hb r hr hr1
      have HSm : Hid (∀ w1 a1 c1 N1 a2 c2 N2, ListAt w1 a1 (widP Rm Rm.length r).length (nodsK N1) → TellL Rm (walkP Rm Rm.length r 0) N1 → (∀ n, n ∈ N1 → n.an = n.ats.length) → ListAt w1 a2 (widP Rm Rm.length r).length (nodsK N2) → TellL Rm (walkP Rm Rm.length r 0) N2 → (∀ n, n ∈ N2 → n.an = n.ats.length) → Calls Try.prog 17 #[.slice a1 (widP Rm Rm.length r).length c1, .slice a2 (widP Rm Rm.length r).length c2] w1 fun e w' => e = .returned (.bool true) ∧ Below w1.heap.size w1 w') := hide fun w1 a1 c1 N1 a2 c2 N2 g1 g2 g3 g4 g5 g6 =>
        keepSame_any a1 a2 _ c1 c2 (nodsK N1) (nodsK N2) w1 (by unfold maxLen; omega) g1 g4 (by rw [f1]; exact tell_twice g2 g5 g3 g6)
      have hz0 : (0 : Int) ≤ (Rm.length : Int) - ((widP Rm Rm.length r).length : Int) := by omega
      have hWl : (widP Rm Rm.length r).length ≤ 800 := by omega
      have HBw := hide hTm.bel
      have HB := hide (Below.refl wr.heap.size wr)
      generalize (Rm.length : Int) - ((widP Rm Rm.length r).length : Int) = z at *
      clear f1 hTm f4
      generalize widP Rm Rm.length r = W at *
      generalize walkP Rm Rm.length r 0 = WW at *
      have HNd := hide f5
      have HW0 := hide f2
      clear f5 f2
      go_wp2_with (first | (go_at_call 16; have HRz := HRa; clear HRz; refine (unhide HI _ (by first | exact .inl rfl | exact .inr rfl) _ HB.out).mono ?_; rintro e v2 ⟨gb, cb, rfl, hRb, hb⟩; replace HRa := hide (ownsRow_below HRa.out hb); replace HB := hide (HB.out.trans (hb.mono HB.out.size)); have HRb := hide hRb; clear hRb hb) | (go_at_call 16; refine (unhide HI _ (by first | exact .inl rfl | exact .inr rfl) _ HB.out).mono ?_; rintro e v1 ⟨ga, ca, rfl, hRa, hb⟩; replace HB := hide (HB.out.trans (hb.mono HB.out.size)); have HRa := hide hRa; clear hRa hb) | (go_at_call 18; have HLz := HL1; clear HLz; refine (unhide HTr _ (by first | exact .inl rfl | exact .inr rfl) _ HB.out).mono ?_; rintro e v4 ⟨a2, c2, N2, rfl, hl2, ht2, hn2, hb⟩; replace HRa := hide (ownsRow_below HRa.out hb); replace HRb := hide (ownsRow_below HRb.out hb); replace HL1 := hide (HL1.out.below hb); replace HB := hide (HB.out.trans (hb.mono HB.out.size)); have HL2 := hide (And.intro hl2 (And.intro ht2 hn2)); clear hl2 ht2 hn2 hb) | (go_at_call 18; refine (unhide HTr _ (by first | exact .inl rfl | exact .inr rfl) _ HB.out).mono ?_; rintro e v3 ⟨a1, c1, N1, rfl, hl1, ht1, hn1, hb⟩; replace HRa := hide (ownsRow_below HRa.out hb); replace HRb := hide (ownsRow_below HRb.out hb); replace HB := hide (HB.out.trans (hb.mono HB.out.size)); have HL1 := hide hl1; have HM1 := hide (And.intro ht1 hn1); have ka := wid_head HRa.out f3 HW0.out; have lga := World.block_lt_of_cell? _ _ ka; clear hl1 ht1 hn1 hb) | (go_at_call 17; refine (unhide HSm _ _ _ N1 _ _ N2 HL1.out HM1.out.1 HM1.out.2 HL2.out.1 HL2.out.2.1 HL2.out.2.2).mono ?_; rintro e v5 ⟨rfl, hb⟩; replace HRa := hide (ownsRow_below HRa.out hb); replace HRb := hide (ownsRow_below HRb.out hb); replace HB := hide (HB.out.trans (hb.mono HB.out.size)); clear hb HL1 HM1 HL2 HSm ka lga) | (go_at_call 19; refine (unhide HLo _ (by first | exact .inl rfl | exact .inr rfl) _ HB.out).mono ?_; rintro e v6 ⟨rfl, hb⟩; replace HRa := hide (ownsRow_below HRa.out hb); replace HRb := hide (ownsRow_below HRb.out hb); replace HB := hide (HB.out.trans (hb.mono HB.out.size)); clear hb))
      have HCa : Hid (∀ wz, Below v6.heap.size v6 wz → ∀ j, j < W.length → wz.cell? ⟨ga, j, none⟩ = some (.int .i64 (W.getD j 0))) := hide fun wz hb j hj => wid_cell (ownsRow_below HRa.out hb) hj
      have HCb : Hid (∀ wz, Below v6.heap.size v6 wz → ∀ j, j < W.length → wz.cell? ⟨gb, j, none⟩ = some (.int .i64 (W.getD j 0))) := hide fun wz hb j hj => wid_cell (ownsRow_below HRb.out hb) hj
      have HNe : Hid (∀ s p, s < p → p < W.length → (W.getD s 0 == W.getD p 0) = false) := hide fun s p h1 h2 => by
        have h3 := List.pairwise_iff_getElem.1 HNd.out s p (by omega) h2 h1
        rw [List.getD_eq_getElem?_getD, List.getElem?_eq_getElem (by omega), List.getD_eq_getElem?_getD, List.getElem?_eq_getElem h2]
        exact beq_eq_false_iff_ne.2 h3
      clear HRa HRb HNd HW0 HI HTr HLo
      go_loopw [23, 24] (fun i _ wz => ∃ p : Nat, p ≤ W.length ∧ i = .int .i64 p ∧ Below v6.heap.size v6 wz) (fun i _ _ => W.length - (intOf i).toNat)
      case atStart => exact ⟨0, Nat.zero_le _, rfl, Below.refl _ _⟩
      case round =>
        obtain ⟨p, hp, rfl, hbz⟩ := hrel
        by_cases hlp : p < W.length
        · have k1 := HCa.out _ hbz p hlp
          have k2 := HCb.out _ hbz p hlp
          have lga := World.block_lt_of_cell? _ _ k1
          have lgb := World.block_lt_of_cell? _ _ k2
          have i1 : (0 : Int) ≤ (p : Int) := by omega
          have i2 : (p : Int) < (W.length : Int) := by omega
          generalize W.getD p 0 = y at k1 k2
          have HBz := hide hbz
          clear hbz
          go_wp2_with fail
          go_big_quiet (fail)
          go_wp2_with fail
          go_loopw [24] (fun i wz => ∃ s : Nat, s ≤ p ∧ i = .int .i64 s ∧ Below v6.heap.size v6 wz) (fun i _ => p - (intOf i).toNat)
          case atStart => exact ⟨0, Nat.zero_le _, rfl, drewN_of HBz.out _⟩
          case round =>
            obtain ⟨s, hs, rfl, hbs⟩ := hrel
            by_cases hls : s < p
            · have k3 := HCa.out _ hbs s (by omega)
              have k4 := HCa.out _ hbs p hlp
              have lgs := World.block_lt_of_cell? _ _ k3
              have hne := HNe.out s p hls hlp
              have i3 : (0 : Int) ≤ (s : Int) := by omega
              have i4 : (s : Int) < (W.length : Int) := by omega
              generalize W.getD p 0 = y2 at k4 hne
              generalize W.getD s 0 = y3 at k3 hne
              clear k1 k2
              go_wp2_with fail
              go_big_quiet (fail)
              go_wp2_with fail
              go_roundw
              case rel => exact ⟨s + 1, by omega, by go_num, drewN_of hbs _⟩
              case measure => simp [intOf]; omega
            · go_wp2_with fail
              go_roundw
              case rel => exact ⟨p + 1, by omega, by go_num, hbs⟩
              case measure => simp [intOf]; omega
        · go_wp2_with fail
          go_ret
          exact ⟨rfl, HBw.out.trans ((HB.out.trans (hbz.mono HB.out.size)).mono HBw.out.size)⟩
end Go.Proofs.Ytobgcaemnpkbmaa
