/- Jc -/
import Derived.Test.YtobgcaemnpkbmaaKc48
namespace Go.Proofs.Ytobgcaemnpkbmaa
open Go.RowKit
set_option maxHeartbeats 4000000 in
set_option maxRecDepth 100000 in
theorem steps_good (b o N c : Nat) (hN : 0 < N) (hN2 : N ≤ 8796093022208) (ao : Nat → Option Addr) (nn cc : Nat → Nat) (Ls : Nat → Nat → Nod) (w : World) (ht : TreesAt w (some ⟨b, o, none⟩) N ao nn cc Ls) (hz : (checkOut (mayB (Ls 0)) (nn 0)).1 = 0) :
    Calls Try.prog 5 #[.slice (some ⟨b, o, none⟩) N c] w fun e w' => e = .returned (.bool true) ∧ Below w.heap.size w w' := by
  have HK := hide (known_any w)
  obtain ⟨b', o', e', lb, hcell⟩ := ht.at' hN
  cases e'
  have x0 := hcell 0 hN
  rw [Nat.add_zero] at x0
  obtain ⟨hl0, hm0, hc0, hk0⟩ := ht.lst 0 hN
  obtain ⟨b0, o0, ea0, _⟩ := hl0 (check_none hz).2.1
  have HN : Hid (∀ w1, Below w.heap.size w w1 → Calls Try.prog 14 #[.slice (ao 0) (nn 0) (cc 0)] w1 fun e w' => ∃ db, e = .returned (.tuple #[.pointer (some ⟨db, 0, none⟩), .int .i64 0, .int .i64 0]) ∧ St w w' db (Ls 0) (nn 0) (madeR (Ls 0) (nn 0)) (nn 0)) := hide fun w1 hb => by
    rw [ea0] at hl0 ⊢
    exact st_new w w1 hb b0 o0 (nn 0) (cc 0) (Ls 0) hm0 hl0 hz hk0
  have HC : Hid (∀ w1, Below w.heap.size w w1 → Calls Try.prog 7 #[.slice (ao 0) (nn 0) (cc 0)] w1 fun e w' => e = .returned (.tuple #[.int .i64 0, .int .i64 0]) ∧ Below w1.heap.size w1 w') := hide fun w1 hb => by
    have := bcheck_any (ao 0) (nn 0) (cc 0) (Ls 0) w1 hm0 (hl0.below hb)
    rw [(check_none hz).1] at this
    exact this
  have hn04 := (check_none hz).2.2.1
  have HT := hide ht
  have HCl := hide hcell
  clear ht hcell hl0 hm0 hc0 hk0 ea0 hz
  go_enter Try.func5, Try.ntmps5
  go_wp2_with (first | (go_at_call 13; refine (unhide HK).mono ?_; rintro e w1 ⟨rfl, hb1⟩; have y1 := (hb1.cell (p := ⟨b, o, none⟩) lb).trans x0; have l1 := Nat.lt_of_lt_of_le lb hb1.size; have HB := hide hb1; clear hb1) | (go_at_call 14; refine (unhide HN _ HB.out).mono ?_; clear HB y1 l1; rintro e w2 ⟨db, rfl, hS⟩; have y1 := (hS.bel.cell (p := ⟨b, o, none⟩) lb).trans x0; have l1 := Nat.lt_of_lt_of_le lb hS.bel.size; have HS := hide hS; clear hS) | (go_at_call 7; refine (unhide HC _ HS.out.bel).mono ?_; clear y1 l1; rintro e w3 ⟨rfl, hb3⟩; replace HS := hide (HS.out.below hb3); have y1 := (HS.out.bel.cell (p := ⟨b, o, none⟩) lb).trans x0; have l1 := Nat.lt_of_lt_of_le lb HS.out.bel.size; clear hb3))
  clear HK HN HC y1 l1
  go_loopw [5, 9, 10, 11, 12, 13, 14, 15, 16, 17, 18, 19, 20, 21] (fun _ nw i _ _ _ _ _ _ _ _ _ _ _ wr => ∃ k t : Nat, 1 ≤ k ∧ k ≤ N ∧ t < k ∧ i = .int .i64 (k : Int) ∧ nw = .slice (ao t) (nn t) (cc t) ∧ Hid (∃ R last, St w wr db (Ls t) (nn t) R last ∧ last ≤ 400 * k)) (fun _ _ i _ _ _ _ _ _ _ _ _ _ _ _ => N - (intOf i).toNat)
  case atStart => exact ⟨1, 0, Nat.le_refl _, hN, by omega, rfl, rfl, hide ⟨_, _, HS.out, by omega⟩⟩
  case round =>
    obtain ⟨k, t, hk1, hk2, htk, rfl, rfl, hE⟩ := hrel
    clear HS
    by_cases hlt : k < N
    · obtain ⟨R, last, hS, hlast⟩ := hE.out
      clear hE
      obtain ⟨hlen, hnt4, hTr⟩ := hS.len
      have hlp := hTr.ok.last_pos
      obtain ⟨hl, hm, hc, hky⟩ := HT.out.lst k hlt
      have xk := (hS.bel.cell (p := ⟨b, o + k, none⟩) lb).trans (HCl.out k hlt)
      have lbr := Nat.lt_of_lt_of_le lb hS.bel.size
      have i1 : (0 : Int) ≤ (k : Int) := by omega
      have i2 : (k : Int) < (N : Int) := by omega
      rcases diff_ways hTr (by omega) (Ls k) (nn k) with ⟨z1, z2⟩ | ⟨z1, z2, z3⟩ | ⟨z1, z2, z3, z4⟩
      · -- no tree
        have HD : Hid (Calls Try.prog 20 #[.pointer (some ⟨db, 0, none⟩), .slice (ao k) (nn k) (cc k)] wr fun e w' => ∃ pa pc, e = .returned (.tuple #[.slice pa 0 pc, .int .i64 (checkOut (mayB (Ls k)) (nn k)).1, .int .i64 (checkOut (mayB (Ls k)) (nn k)).2]) ∧ Below wr.heap.size wr w') := hide ((st_diff w wr db _ _ R last hS (by omega) (ao k) (nn k) (cc k) (Ls k) hm hc hl hky [] (checkOut (mayB (Ls k)) (nn k)).1 (checkOut (mayB (Ls k)) (nn k)).2 (by rw [z2]) (if_neg z1)).mono fun _ _ ⟨pa, pc, h1, _, h2⟩ => ⟨pa, pc, h1, h2⟩)
        have HC : Hid (∀ w1, Below w.heap.size w w1 → Calls Try.prog 7 #[.slice (ao k) (nn k) (cc k)] w1 fun e w' => e = .returned (.tuple #[.int .i64 (checkOut (mayB (Ls k)) (nn k)).1, .int .i64 (checkOut (mayB (Ls k)) (nn k)).2]) ∧ Below w1.heap.size w1 w') := hide fun w1 hb => bcheck_any (ao k) (nn k) (cc k) (Ls k) w1 hm (hl.below hb)
        clear z2
        generalize (checkOut (mayB (Ls k)) (nn k)).2 = at' at *
        generalize (checkOut (mayB (Ls k)) (nn k)).1 = no at *
        have hne : (no == 0) = false := beq_eq_false_iff_ne.2 z1
        have HS := hide hS
        clear hS hTr hl hm hc hky z1 hlen
        go_wp2_with (first | (go_at_call 20; refine (unhide HD).mono ?_; rintro e w4 ⟨pa, pc, rfl, hb4⟩; replace HS := hide (HS.out.below hb4); clear xk lbr hb4; have xk := (HS.out.bel.cell (p := ⟨b, o + k, none⟩) lb).trans (HCl.out k hlt); have lbr := Nat.lt_of_lt_of_le lb HS.out.bel.size) | (go_at_call 7; refine (unhide HC _ HS.out.bel).mono ?_; rintro e w5 ⟨rfl, hb5⟩; replace HS := hide (HS.out.below hb5); clear xk lbr hb5; have xk := (HS.out.bel.cell (p := ⟨b, o + k, none⟩) lb).trans (HCl.out k hlt); have lbr := Nat.lt_of_lt_of_le lb HS.out.bel.size))
        go_big_quiet (fail)
        go_wp2_with fail
        go_roundw
        case rel => exact ⟨k + 1, t, by omega, hlt, by omega, by go_num, rfl, hide ⟨_, _, HS.out.below (drewN_of (.refl _ _) _), by omega⟩⟩
        case measure => simp [intOf]; omega
      · -- another root
        obtain ⟨z0, hn0, hn4, hmay⟩ := check_none z1
        obtain ⟨bk, ok', eak, hNk⟩ := hl hn0
        obtain ⟨bt, ot, eat, hNt⟩ := (HT.out.lst t (by omega)).1 hTr.pos
        have ndk := hNk.node 0 hn0
        have ndt := hNt.node 0 hTr.pos
        rw [Nat.zero_mul, Nat.add_zero] at ndk ndt
        have lbk := hNk.lt
        have lbt := hNt.lt
        have HX : Hid (∀ w1, Below w.heap.size w w1 → w1.cell? ⟨b, o + k, none⟩ = some (.slice (some ⟨bk, ok', none⟩) (nn k) (cc k)) ∧ w1.cell? ⟨bk, ok' + 1, none⟩ = some (.string (Ls k 0).t) ∧ w1.cell? ⟨bk, ok' + 2, none⟩ = some (.int .i64 (Ls k 0).k) ∧ w1.cell? ⟨bt, ot + 1, none⟩ = some (.string (Ls t 0).t) ∧ w1.cell? ⟨bt, ot + 2, none⟩ = some (.int .i64 (Ls t 0).k) ∧ b < w1.heap.size ∧ bk < w1.heap.size ∧ bt < w1.heap.size) := hide fun w1 hb => ⟨by rw [hb.cell (p := ⟨b, o + k, none⟩) lb, HCl.out k hlt, eak], (hb.cell (p := ⟨bk, _, none⟩) lbk).trans ndk.c1, (hb.cell (p := ⟨bk, _, none⟩) lbk).trans ndk.c2, (hb.cell (p := ⟨bt, _, none⟩) lbt).trans ndt.c1, (hb.cell (p := ⟨bt, _, none⟩) lbt).trans ndt.c2, Nat.lt_of_lt_of_le lb hb.size, Nat.lt_of_lt_of_le lbk hb.size, Nat.lt_of_lt_of_le lbt hb.size⟩
        have HC : Hid (∀ w1, Below w.heap.size w w1 → Calls Try.prog 7 #[.slice (some ⟨bk, ok', none⟩) (nn k) (cc k)] w1 fun e w' => e = .returned (.tuple #[.int .i64 0, .int .i64 0]) ∧ Below w1.heap.size w1 w') := hide fun w1 hb => by
          have := bcheck_any (ao k) (nn k) (cc k) (Ls k) w1 hm (hl.below hb)
          rw [z0, eak] at this
          exact this
        clear xk lbr
        obtain ⟨xk, u1, u2, v1, v2, lbr, lk, lt'⟩ := HX.out _ hS.bel
        have HD : Hid (Calls Try.prog 20 #[.pointer (some ⟨db, 0, none⟩), .slice (some ⟨bk, ok', none⟩) (nn k) (cc k)] wr fun e w' => ∃ pa pc, e = .returned (.tuple #[.slice pa 0 pc, .int .i64 3, .int .i64 0]) ∧ Below wr.heap.size wr w') := hide (by
          have := st_diff w wr db _ _ R last hS (by omega) (ao k) (nn k) (cc k) (Ls k) hm hc hl hky [] 3 0 z3 (if_neg (by omega))
          rw [eak] at this
          exact this.mono fun _ _ ⟨pa, pc, h1, _, h2⟩ => ⟨pa, pc, h1, h2⟩)
        have HS := hide hS
        have hnt0 : 0 < nn t := hTr.pos
        have Heat := hide eat
        rw [eat]
        clear hS hTr hl hm hc hky z1 hlen z3 z0 hNk hNt ndk ndt eak eat hmay
        generalize (Ls k 0).t = tk at *
        generalize (Ls k 0).k = yk at *
        generalize (Ls t 0).t = tt at *
        generalize (Ls t 0).k = yt at *
        cases hq : (tk.toList == tt.toList) with
        | false =>
          clear z2
          go_wp2_with (first | (go_at_call 20; refine (unhide HD).mono ?_; rintro e w4 ⟨pa, pc, rfl, hb4⟩; replace HS := hide (HS.out.below hb4); clear xk u1 u2 v1 v2 lbr lk lt' hb4; obtain ⟨xk, u1, u2, v1, v2, lbr, lk, lt'⟩ := HX.out _ HS.out.bel) | (go_at_call 7; refine (unhide HC _ HS.out.bel).mono ?_; rintro e w5 ⟨rfl, hb5⟩; replace HS := hide (HS.out.below hb5); clear xk u1 u2 v1 v2 lbr lk lt' hb5; obtain ⟨xk, u1, u2, v1, v2, lbr, lk, lt'⟩ := HX.out _ HS.out.bel))
          go_big_quiet (fail)
          go_wp2_with fail
          go_roundw
          case rel => exact ⟨k + 1, t, by omega, hlt, by omega, by go_num, by rw [Heat.out], hide ⟨_, _, HS.out.below (drewN_of (.refl _ _) _), by omega⟩⟩
          case measure => simp [intOf]; omega
        | true =>
          have hy : (yk == yt) = false := by rw [hq] at z2; simpa using z2
          clear z2
          go_wp2_with (first | (go_at_call 20; refine (unhide HD).mono ?_; rintro e w4 ⟨pa, pc, rfl, hb4⟩; replace HS := hide (HS.out.below hb4); clear xk u1 u2 v1 v2 lbr lk lt' hb4; obtain ⟨xk, u1, u2, v1, v2, lbr, lk, lt'⟩ := HX.out _ HS.out.bel) | (go_at_call 7; refine (unhide HC _ HS.out.bel).mono ?_; rintro e w5 ⟨rfl, hb5⟩; replace HS := hide (HS.out.below hb5); clear xk u1 u2 v1 v2 lbr lk lt' hb5; obtain ⟨xk, u1, u2, v1, v2, lbr, lk, lt'⟩ := HX.out _ HS.out.bel))
          go_big_quiet (fail)
          go_wp2_with fail
          go_roundw
          case rel => exact ⟨k + 1, t, by omega, hlt, by omega, by go_num, by rw [Heat.out], hide ⟨_, _, HS.out.below (drewN_of (.refl _ _) _), by omega⟩⟩
          case measure => simp [intOf]; omega
      · -- a tree
        obtain ⟨z0, hn0, hn4, hmay⟩ := check_none z1
        obtain ⟨bk, ok', eak, hNk⟩ := hl hn0
        obtain ⟨bt, ot, eat, hNt⟩ := (HT.out.lst t (by omega)).1 hTr.pos
        have ndk := hNk.node 0 hn0
        have ndt := hNt.node 0 hTr.pos
        rw [Nat.zero_mul, Nat.add_zero] at ndk ndt
        have lbk := hNk.lt
        have lbt := hNt.lt
        have HX : Hid (∀ w1, Below w.heap.size w w1 → w1.cell? ⟨b, o + k, none⟩ = some (.slice (some ⟨bk, ok', none⟩) (nn k) (cc k)) ∧ w1.cell? ⟨bk, ok' + 1, none⟩ = some (.string (Ls k 0).t) ∧ w1.cell? ⟨bk, ok' + 2, none⟩ = some (.int .i64 (Ls k 0).k) ∧ w1.cell? ⟨bt, ot + 1, none⟩ = some (.string (Ls t 0).t) ∧ w1.cell? ⟨bt, ot + 2, none⟩ = some (.int .i64 (Ls t 0).k) ∧ b < w1.heap.size ∧ bk < w1.heap.size ∧ bt < w1.heap.size) := hide fun w1 hb => ⟨by rw [hb.cell (p := ⟨b, o + k, none⟩) lb, HCl.out k hlt, eak], (hb.cell (p := ⟨bk, _, none⟩) lbk).trans ndk.c1, (hb.cell (p := ⟨bk, _, none⟩) lbk).trans ndk.c2, (hb.cell (p := ⟨bt, _, none⟩) lbt).trans ndt.c1, (hb.cell (p := ⟨bt, _, none⟩) lbt).trans ndt.c2, Nat.lt_of_lt_of_le lb hb.size, Nat.lt_of_lt_of_le lbk hb.size, Nat.lt_of_lt_of_le lbt hb.size⟩
        have HC : Hid (∀ w1, Below w.heap.size w w1 → Calls Try.prog 7 #[.slice (some ⟨bk, ok', none⟩) (nn k) (cc k)] w1 fun e w' => e = .returned (.tuple #[.int .i64 0, .int .i64 0]) ∧ Below w1.heap.size w1 w') := hide fun w1 hb => by
          have := bcheck_any (ao k) (nn k) (cc k) (Ls k) w1 hm (hl.below hb)
          rw [z0, eak] at this
          exact this
        clear xk lbr
        obtain ⟨xk, u1, u2, v1, v2, lbr, lk, lt'⟩ := HX.out _ hS.bel
        generalize hP : diffP R last (Ls k) (nn k) = P
        have HD : Hid (Calls Try.prog 20 #[.pointer (some ⟨db, 0, none⟩), .slice (some ⟨bk, ok', none⟩) (nn k) (cc k)] wr fun e w' => ∃ pa pc, e = .returned (.tuple #[.slice pa P.length pc, .int .i64 0, .int .i64 0]) ∧ w'.ownsRow wr.heap.size 43 8 (.slice pa P.length pc) P.length (patsL P) ∧ Below wr.heap.size wr w') := hide (by
          have := st_diff w wr db _ _ R last hS (by omega) (ao k) (nn k) (cc k) (Ls k) hm hc hl hky P 0 0 z4 ((if_pos rfl).trans hP)
          rw [eak] at this
          exact this)
        have HA : Hid (∀ w1 pa pc, Below wr.heap.size wr w1 → w1.ownsRow wr.heap.size 43 8 (.slice pa P.length pc) P.length (patsL P) → Calls Try.prog 15 #[.pointer (some ⟨db, 0, none⟩), .slice pa P.length pc] w1 fun e w' => e = .returned (.tuple #[.int .i64 0, .int .i64 0]) ∧ ∃ R' last', St w w' db (Ls k) (nn k) R' last' ∧ last' ≤ last + 400) := hide fun w1 pa pc hb hr => by
          have hroot := hTr.root
          subst hP
          exact st_apply w wr w1 db _ _ R last hS hb (by omega) (Ls k) (nn k) hn0 hn4 hmay hky (by rw [hroot.1, z2]) (by rw [hroot.2, z3]) pa pc hr
        have HD2 : Hid (∀ w1 R' last', St w w1 db (Ls k) (nn k) R' last' → last' ≤ last + 400 → Calls Try.prog 20 #[.pointer (some ⟨db, 0, none⟩), .slice (some ⟨bk, ok', none⟩) (nn k) (cc k)] w1 fun e w' => ∃ pa pc, e = .returned (.tuple #[.slice pa 0 pc, .int .i64 0, .int .i64 0]) ∧ Below w1.heap.size w1 w') := hide fun w1 R' last' h1 h2 => by
          obtain ⟨q1, q2, q3⟩ := h1.len
          obtain ⟨d1, d2⟩ := diff_same q3 q1 q2
          have := st_diff w w1 db _ _ R' last' h1 (by omega) (ao k) (nn k) (cc k) (Ls k) hm hc hl hky [] 0 0 d1 ((if_pos rfl).trans d2)
          rw [eak] at this
          exact this.mono fun _ _ ⟨pa, pc, h1, _, h2⟩ => ⟨pa, pc, h1, h2⟩
        have HSm : Hid (∀ w1 a1 c1 N1, Below w.heap.size w w1 → ListAt w1 a1 (nn k) (nodsK N1) → (∀ i, i < nn k → (nodsK N1 i).d = (Ls k i).d ∧ (nodsK N1 i).t = (Ls k i).t ∧ (nodsK N1 i).k = (Ls k i).k ∧ (nodsK N1 i).x = (Ls k i).x ∧ (nodsK N1 i).an = (Ls k i).an ∧ ∀ j, j < (Ls k i).an → (nodsK N1 i).nm j = (Ls k i).nm j ∧ (nodsK N1 i).vl j = (Ls k i).vl j) → Calls Try.prog 17 #[.slice a1 (nn k) c1, .slice (some ⟨bk, ok', none⟩) (nn k) (cc k)] w1 fun e w' => e = .returned (.bool true) ∧ Below w1.heap.size w1 w') := hide fun w1 a1 c1 N1 hb h1 h2 => by
          have := keepSame_any a1 (ao k) (nn k) c1 (cc k) (nodsK N1) (Ls k) w1 hm h1 (hl.below hb) h2
          rw [eak] at this
          exact this
        have HS := hide hS
        have HSr := hide hS
        have HBr := hide (Below.refl wr.heap.size wr)
        have hnt0 : 0 < nn t := hTr.pos
        have Heak := hide eak
        rw [eat]
        rw [← z2, ← z3] at HX
        rw [← z2] at v1
        rw [← z3] at v2
        clear hS hTr hl hm hc hky z1 hlen z4 z0 hNk hNt ndk ndt eak eat hmay hP z2 z3
        generalize (Ls k 0).t = tk at *
        generalize (Ls k 0).k = yk at *
        go_wp2_with (first | (go_at_call 20; have Hz := HS6; clear Hz; refine (unhide HD2 _ _ _ HS6.out HL6.out).mono ?_; rintro e wB ⟨pa2, pc2, rfl, hbB⟩; replace HS6 := hide (HS6.out.below hbB); clear xk u1 u2 v1 v2 lbr lk lt' hbB; obtain ⟨xk, u1, u2, v1, v2, lbr, lk, lt'⟩ := HX.out _ HS6.out.bel) | (go_at_call 20; refine (unhide HD).mono ?_; rintro e w4 ⟨pa, pc, rfl, hrow4, hb4⟩; replace HS := hide (HS.out.below hb4); replace HBr := hide hb4; have HRow := hide hrow4; clear xk u1 u2 v1 v2 lbr lk lt' hb4 hrow4; obtain ⟨xk, u1, u2, v1, v2, lbr, lk, lt'⟩ := HX.out _ HS.out.bel) | (go_at_call 7; refine (unhide HC _ HS.out.bel).mono ?_; rintro e w5 ⟨rfl, hb5⟩; replace HS := hide (HS.out.below hb5); replace HBr := hide (HBr.out.trans (hb5.mono HBr.out.size)); replace HRow := hide (ownsRow_below HRow.out hb5); clear xk u1 u2 v1 v2 lbr lk lt' hb5; obtain ⟨xk, u1, u2, v1, v2, lbr, lk, lt'⟩ := HX.out _ HS.out.bel))
        go_big_quiet (fail)
        replace HS := hide (HS.out.below (drewN_of (.refl _ _) nq))
        replace HBr := hide (drewN_of HBr.out nq)
        replace HRow := hide (ownsRow_below HRow.out (drewN_of (.refl _ _) nq))
        generalize w5.drewN nq = w5' at HS HBr HRow ⊢
        clear xk u1 u2 v1 v2 lbr lk lt'
        obtain ⟨xk, u1, u2, v1, v2, lbr, lk, lt'⟩ := HX.out _ HS.out.bel
        go_wp2_with (first | (go_at_call 20; refine (unhide HD2 _ _ _ HS6.out HL6.out).mono ?_; rintro e wB ⟨pa2, pc2, rfl, hbB⟩; replace HS6 := hide (HS6.out.below hbB); clear xk u1 u2 v1 v2 lbr lk lt' hbB; obtain ⟨xk, u1, u2, v1, v2, lbr, lk, lt'⟩ := HX.out _ HS6.out.bel) | (go_at_call 15; refine (unhide HA _ _ _ HBr.out HRow.out).mono ?_; rintro e w6 ⟨rfl, R6, l6, hS6, hl6⟩; have HS6 := hide hS6; have HL6 := hide hl6; clear xk u1 u2 v1 v2 lbr lk lt' hS6 hl6; obtain ⟨xk, u1, u2, v1, v2, lbr, lk, lt'⟩ := HX.out _ HS6.out.bel) | (go_at_call 18; refine (st_tree w _ db (Ls k) (nn k) R6 l6 HS6.out).mono ?_; rintro e w7 ⟨a7, c7, N7, rfl, hl7, hs7, hb7⟩; replace HS6 := hide (HS6.out.below hb7); have HL7 := hide hl7; have HS7 := hide hs7; clear xk u1 u2 v1 v2 lbr lk lt' hl7 hs7 hb7; obtain ⟨xk, u1, u2, v1, v2, lbr, lk, lt'⟩ := HX.out _ HS6.out.bel) | (go_at_call 17; refine (unhide HSm _ _ _ N7 HS6.out.bel HL7.out HS7.out).mono ?_; rintro e w8 ⟨rfl, hb8⟩; replace HS6 := hide (HS6.out.below hb8); clear xk u1 u2 v1 v2 lbr lk lt' hb8 HL7; obtain ⟨xk, u1, u2, v1, v2, lbr, lk, lt'⟩ := HX.out _ HS6.out.bel) | (go_at_call 16; refine (st_ids w _ db (Ls k) (nn k) R6 l6 HS6.out).mono ?_; rintro e w9 ⟨a9, c9, rfl, hb9⟩; replace HS6 := hide (HS6.out.below hb9); clear xk u1 u2 v1 v2 lbr lk lt' hb9; obtain ⟨xk, u1, u2, v1, v2, lbr, lk, lt'⟩ := HX.out _ HS6.out.bel) | (go_at_call 19; refine (st_loose w _ db (Ls k) (nn k) R6 l6 HS6.out).mono ?_; rintro e wA ⟨rfl, hbA⟩; replace HS6 := hide (HS6.out.below hbA); clear xk u1 u2 v1 v2 lbr lk lt' hbA; obtain ⟨xk, u1, u2, v1, v2, lbr, lk, lt'⟩ := HX.out _ HS6.out.bel))
        go_roundw
        case rel => exact ⟨k + 1, k, by omega, hlt, by omega, by go_num, by rw [Heak.out], hide ⟨_, _, HS6.out, by have := HL6.out; omega⟩⟩
        case measure => simp [intOf]; omega
    · obtain ⟨R, last, hS, hlast⟩ := hE.out
      clear hE
      obtain ⟨hlen, hnt4, hTr⟩ := hS.len
      obtain ⟨hl, hm, _, _⟩ := HT.out.lst t (by omega)
      have HSm : Hid (∀ w1 a1 c1 N1, Below w.heap.size w w1 → ListAt w1 a1 (nn t) (nodsK N1) → (∀ i, i < nn t → (nodsK N1 i).d = (Ls t i).d ∧ (nodsK N1 i).t = (Ls t i).t ∧ (nodsK N1 i).k = (Ls t i).k ∧ (nodsK N1 i).x = (Ls t i).x ∧ (nodsK N1 i).an = (Ls t i).an ∧ ∀ j, j < (Ls t i).an → (nodsK N1 i).nm j = (Ls t i).nm j ∧ (nodsK N1 i).vl j = (Ls t i).vl j) → Calls Try.prog 17 #[.slice a1 (nn t) c1, .slice (ao t) (nn t) (cc t)] w1 fun e w' => e = .returned (.bool true) ∧ Below w1.heap.size w1 w') := hide fun w1 a1 c1 N1 hb h1 h2 =>
        keepSame_any a1 (ao t) (nn t) c1 (cc t) (nodsK N1) (Ls t) w1 hm h1 (hl.below hb) h2
      have HS := hide hS
      clear hS hTr hl hm
      go_wp2_with (first | (go_at_call 18; refine (st_tree w _ db (Ls t) (nn t) R last HS.out).mono ?_; rintro e w7 ⟨a7, c7, N7, rfl, hl7, hs7, hb7⟩; replace HS := hide (HS.out.below hb7); have HL7 := hide hl7; have HS7 := hide hs7; clear hl7 hs7 hb7) | (go_at_call 17; refine (unhide HSm _ _ _ N7 HS.out.bel HL7.out HS7.out).mono ?_; rintro e w8 ⟨rfl, hb8⟩; replace HS := hide (HS.out.below hb8); clear hb8))
      go_ret
      exact ⟨rfl, HS.out.bel⟩
end Go.Proofs.Ytobgcaemnpkbmaa
