/- Ko -/
import Derived.Test.YtobgcaemnpkbmaaMd46
namespace Go.Proofs.Ytobgcaemnpkbmaa
open Go.RowKit
set_option maxHeartbeats 4000000 in
set_option maxRecDepth 100000 in
theorem moved_any (lo : Option Addr) (ln lc : Nat) (l : Nat → Int) (mo : Option Addr) (mn mc : Nat) (m : Nat → Int) (fr to : Int) (w : World) (hln : ln ≤ 9223372036854775807) (hmn : mn ≤ 9223372036854775807) (hl : IntsIn w lo ln l) (hm : IntsIn w mo mn m) (hfr : I64 fr) (hto : I64 to) :
    Calls Try.prog 6 #[.slice lo ln lc, .slice mo mn mc, .int .i64 fr, .int .i64 to] w fun e w' => e = .returned (.bool true) ∧ Below w.heap.size w w' := by
  obtain ⟨ti, hi, hz0, hz1, hz2⟩ := info_parts nodeInfo'
  have HK := hide (known_any w)
  have ha60 : (keysTo l (min ln 60)).length ≤ 60 := Nat.le_trans (keysTo_ok l (min ln 60)).2 (Nat.min_le_right _ _)
  have hb60 : (keysTo m (min mn 60)).length ≤ 60 := Nat.le_trans (keysTo_ok m (min mn 60)).2 (Nat.min_le_right _ _)
  have hka := (keysTo_ok l (min ln 60)).1
  have hkb := (keysTo_ok m (min mn 60)).1
  have HKa : Hid (∀ w1, Below w.heap.size w w1 → Calls Try.prog 21 #[.slice lo ln lc] w1 fun e w' => ∃ ga ca, e = .returned (.slice (some ⟨ga, 0, none⟩) ((keysTo l (min ln 60)).length + 1) ca) ∧ w'.ownsRow w1.heap.size 28 5 (.slice (some ⟨ga, 0, none⟩) ((keysTo l (min ln 60)).length + 1) ca) ((keysTo l (min ln 60)).length + 1) (keyCells (keysTo l (min ln 60))) ∧ Below w1.heap.size w1 w') := hide fun w1 hb => (keyed_any lo ln lc l w1 hln (hl.below hb)).mono fun e w' ⟨q, h1, h2, h3⟩ => by
    obtain ⟨ga, ca, rfl⟩ := keys_at h2
    exact ⟨ga, ca, h1, h2, h3⟩
  have HKb : Hid (∀ w1, Below w.heap.size w w1 → Calls Try.prog 21 #[.slice mo mn mc] w1 fun e w' => ∃ ga ca, e = .returned (.slice (some ⟨ga, 0, none⟩) ((keysTo m (min mn 60)).length + 1) ca) ∧ w'.ownsRow w1.heap.size 28 5 (.slice (some ⟨ga, 0, none⟩) ((keysTo m (min mn 60)).length + 1) ca) ((keysTo m (min mn 60)).length + 1) (keyCells (keysTo m (min mn 60))) ∧ Below w1.heap.size w1 w') := hide fun w1 hb => (keyed_any mo mn mc m w1 hmn (hm.below hb)).mono fun e w' ⟨q, h1, h2, h3⟩ => by
    obtain ⟨ga, ca, rfl⟩ := keys_at h2
    exact ⟨ga, ca, h1, h2, h3⟩
  clear hl hm hln hmn
  generalize keysTo l (min ln 60) = ka at *
  generalize keysTo m (min mn 60) = kb at *
  obtain ⟨nA, hA⟩ : ∃ nA, nA = ka.length + 1 := ⟨_, rfl⟩
  obtain ⟨nB, hB⟩ : ∃ nB, nB = kb.length + 1 := ⟨_, rfl⟩
  obtain ⟨P, hP⟩ : ∃ P, diffP (madeR (kTree ka) nA) nA (kTree kb) nB = P := ⟨_, rfl⟩
  rw [← hA] at HKa
  rw [← hB] at HKb
  have HN : Hid (∀ w1 B ga ca, w1.ownsRow B 28 5 (.slice (some ⟨ga, 0, none⟩) nA ca) nA (keyCells ka) → Calls Try.prog 14 #[.slice (some ⟨ga, 0, none⟩) nA ca] w1 fun e w' => ∃ db, e = .returned (.tuple #[.pointer (some ⟨db, 0, none⟩), .int .i64 0, .int .i64 0]) ∧ St w1 w' db (kTree ka) nA (madeR (kTree ka) nA) nA) := hide fun w1 B ga ca h => mv_new hka ha60 hA w1 B ga ca h
  have HD : Hid (∀ W w1 db, St W w1 db (kTree ka) nA (madeR (kTree ka) nA) nA → ∀ B gb cb, W.ownsRow B 28 5 (.slice (some ⟨gb, 0, none⟩) nB cb) nB (keyCells kb) → Calls Try.prog 20 #[.pointer (some ⟨db, 0, none⟩), .slice (some ⟨gb, 0, none⟩) nB cb] w1 fun e w' => ∃ pa pc, e = .returned (.tuple #[.slice pa P.length pc, .int .i64 0, .int .i64 0]) ∧ w'.ownsRow w1.heap.size 43 8 (.slice pa P.length pc) P.length (patsL P) ∧ Below w1.heap.size w1 w') := hide fun W w1 db h B gb cb hr => by
    subst hP
    exact mv_diff hkb ha60 hb60 hA hB W w1 db _ _ (by omega) h B gb cb (ownsRow_below hr h.bel)
  have HA : Hid (∀ W w0 w1 db, St W w0 db (kTree ka) nA (madeR (kTree ka) nA) nA → Below w0.heap.size w0 w1 → ∀ pa pc, w1.ownsRow w0.heap.size 43 8 (.slice pa P.length pc) P.length (patsL P) → Calls Try.prog 15 #[.pointer (some ⟨db, 0, none⟩), .slice pa P.length pc] w1 fun e w' => e = .returned (.tuple #[.int .i64 0, .int .i64 0]) ∧ w'.ownsRow w0.heap.size 43 8 (.slice pa P.length pc) P.length (patsL P) ∧ ∃ R' last', St W w' db (kTree kb) nB R' last' ∧ last' ≤ 1000 ∧ ∀ k, k < kb.length → kb.getD k 0 ∈ ka → (niOf R' 1).kids.getD k 0 = posK ka (kb.getD k 0) + 2) := hide fun W w0 w1 db h hb pa pc hr => mv_apply hka hkb ha60 hb60 hA hB W w0 w1 db h hb P hP pa pc hr
  have HNum := hide (mv_first hka hkb ha60 hb60 hA hB P hP)
  clear hP
  have HlA := hide hA
  have HlB := hide hB
  have hnA : nA ≤ 61 := by omega
  have hnB : nB ≤ 61 := by omega
  have HHa := hide hka
  have HHb := hide hkb
  clear hA hB hka hkb
  go_enter Try.func6, Try.ntmps6
  go_wp2_with (first | (go_at_call 13; refine (unhide HK).mono ?_; rintro e w1 ⟨rfl, hb1⟩; have HB := hide hb1; clear hb1) | (go_at_call 21; have Hz := HRa; clear Hz; refine (unhide HKb _ HB.out).mono ?_; rintro e w3 ⟨gb, cb, rfl, hrb, hb3⟩; replace HRa := hide (ownsRow_below HRa.out hb3); replace HB := hide (HB.out.trans (hb3.mono HB.out.size)); have HRb := hide hrb; clear hb3 hrb) | (go_at_call 21; refine (unhide HKa _ HB.out).mono ?_; rintro e w2 ⟨ga, ca, rfl, hra, hb2⟩; replace HB := hide (HB.out.trans (hb2.mono HB.out.size)); have HRa := hide hra; clear hb2 hra) | (go_at_call 14; refine (unhide HN _ _ _ _ HRa.out).mono ?_; rintro e w4 ⟨db, rfl, hS⟩; have HS := hide hS; clear hS) | (go_at_call 20; refine (unhide HD _ _ _ HS.out _ _ _ HRb.out).mono ?_; rintro e w5 ⟨pa, pc, rfl, hrp, hb5⟩; have HRp := hide hrp; have HB5 := hide hb5; clear hrp hb5) | (go_at_call 15; refine (unhide HA _ _ _ _ HS.out HB5.out _ _ HRp.out).mono ?_; rintro e w6 ⟨rfl, hrp, R, last, hS6, hl6, hkid⟩; replace HRp := hide hrp; have HS6 := hide hS6; have Hl6 := hide hl6; have HKid := hide hkid; clear hrp hS6 hl6 hkid) | (go_at_call 16; refine (mv_ids HlA.out HlB.out _ _ _ R last Hl6.out HS6.out _ _ _ HRa.out _ _ _ HRb.out _ P _ _ HRp.out).mono ?_; rintro e w7 ⟨gi, ci, rfl, hM⟩; have HM := hide hM; replace HB := hide (HB.out.trans (hM.st.bel.mono HB.out.size)); clear hM HS6 Hl6 HRp HB5 HS))
  clear HK HKa HKb HN HD HA
  go_loopw [21, 23, 24, 25] (fun cm i _ _ wz => ∃ j : Nat, 1 ≤ j ∧ j ≤ nB ∧ i = .int .i64 (j : Int) ∧ cm = .int .i64 (cameK ka (kb.take (j - 1)) : Nat) ∧ Hid (MvAt w3 wz db ka kb nA nB R last P ga gb gi pa) ∧ Hid (Below w.heap.size w wz)) (fun _ i _ _ _ => nB - (intOf i).toNat)
  case atStart => exact ⟨1, Nat.le_refl _, by have := HlB.out; omega, rfl, rfl, HM, HB⟩
  case round =>
    obtain ⟨j, hj1, hj2, rfl, rfl, HM', HB'⟩ := hrel
    clear HM HB
    by_cases hlt : j < nB
    · have cbk := HM'.out.cb j hlt 2 (by omega)
      rw [kTree_key hj1] at cbk
      have hjb : j - 1 < kb.length := by have := HlB.out; omega
      have lbr := HM'.out.lb
      have i1 : (0 : Int) ≤ (j : Int) := by omega
      have i2 : (j : Int) < (nB : Int) := by omega
      have hcs := came_step (ka := ka) hjb
      rw [show j - 1 + 1 = j by omega] at hcs
      have hkid := HKid.out (j - 1) hjb
      have Hkid := hide hkid
      have Hcs := hide hcs
      clear hkid hcs
      generalize hkey : kb.getD (j - 1) 0 = key at *
      have hcl := came_le ka (kb.take (j - 1))
      rw [List.length_take] at hcl
      generalize hcm : cameK ka (kb.take (j - 1)) = cm at *
      go_wp2_with fail
      go_loopw [24, 25] (fun was kv wy => ∃ k : Nat, 1 ≤ k ∧ k ≤ nA ∧ kv = .int .i64 (k : Int) ∧ was = .int .i64 (wasTo ka key (k - 1)) ∧ Hid (MvAt w3 wy db ka kb nA nB R last P ga gb gi pa) ∧ Hid (Below w.heap.size w wy)) (fun _ kv _ => nA - (intOf kv).toNat)
      case atStart => exact ⟨1, Nat.le_refl _, by have := HlA.out; omega, rfl, rfl, HM', HB'⟩
      case round =>
        obtain ⟨k, hk1, hk2, rfl, rfl, HM2, HB2⟩ := hrel
        clear HM' HB' cbk lbr
        by_cases hkl : k < nA
        · have cak := HM2.out.ca k hk1 hkl
          have cbk := HM2.out.cb j hlt 2 (by omega)
          rw [kTree_key hj1, hkey] at cbk
          have lar := HM2.out.la
          have lbr := HM2.out.lb
          have k1 : (0 : Int) ≤ (k : Int) := by omega
          have k2 : (k : Int) < (nA : Int) := by omega
          have HW : Hid (if (ka.getD (k - 1) 0 == key) = true then wasTo ka key k = (k : Int) else wasTo ka key k = wasTo ka key (k - 1)) := hide (by
            cases hq : (ka.getD (k - 1) 0 == key) with
            | true => exact wasTo_hit hk1 hq
            | false => exact wasTo_miss hk1 hq)
          generalize ka.getD (k - 1) 0 = kk at cak HW
          cases hq : (kk == key) with
          | true =>
            have hw := HW.out
            rw [hq, if_pos rfl] at hw
            have Hw := hide hw
            clear hw HW
            go_wp2_with fail
            go_big_quiet (fail)
            go_wp2_with fail
            refine ⟨⟨k + 1, by omega, hkl, by go_num, ?_, hide (HM2.out.below (drewN_of (.refl _ _) _)), hide (HB2.out.trans ((drewN_of (.refl _ _) _).mono HB2.out.size))⟩, by simp [intOf]; omega⟩
            rw [Nat.add_sub_cancel, Hw.out]
          | false =>
            have hw := HW.out
            rw [hq, if_neg (by simp)] at hw
            have Hw := hide hw
            clear hw HW
            go_wp2_with fail
            go_big_quiet (fail)
            go_wp2_with fail
            refine ⟨⟨k + 1, by omega, hkl, by go_num, ?_, hide (HM2.out.below (drewN_of (.refl _ _) _)), hide (HB2.out.trans ((drewN_of (.refl _ _) _).mono HB2.out.size))⟩, by simp [intOf]; omega⟩
            rw [Nat.add_sub_cancel, Hw.out]
        · have hk' : k - 1 = ka.length := by have := HlA.out; omega
          have hwa := wasTo_all HHa.out.nodup key
          rw [hk', hwa]
          have kA : ¬ (k : Int) < (nA : Int) := by omega
          clear hwa hk'
          by_cases hmem : key ∈ ka
          · obtain ⟨p, hp, ep⟩ := mem_getD hmem
            have hpos := posK_at HHa.out.nodup hp
            rw [← ep] at hpos
            have hid := Hkid.out hmem
            have cik := HM2.out.ci j hj1 hlt
            rw [hid, hpos] at cik
            have hcs := Hcs.out
            rw [if_pos hmem, Nat.add_zero] at hcs
            have Hcs' := hide hcs
            have lir := HM2.out.li
            rw [hpos]
            have p1 : ((p : Int) + 1 == 0) = false := beq_eq_false_iff_ne.2 (by omega)
            clear hid hcs hpos ep hmem Hcs Hkid
            go_wp2_with fail
            refine ⟨⟨j + 1, by omega, hlt, by go_num, by rw [Nat.add_sub_cancel, Hcs'.out], HM2, HB2⟩, by simp [intOf]; omega⟩
          · have hpos := posK_none hmem
            have hcs := Hcs.out
            rw [if_neg hmem] at hcs
            have Hcs' := hide hcs
            rw [hpos]
            clear hcs hpos hmem Hcs Hkid
            go_wp2_with fail
            refine ⟨⟨j + 1, by omega, hlt, by go_num, by rw [Nat.add_sub_cancel, Hcs'.out]; rfl, HM2, HB2⟩, by simp [intOf]; omega⟩
    · have ej : j - 1 = kb.length := by have := HlB.out; omega
      have jB : ¬ (j : Int) < (nB : Int) := by omega
      rw [ej, List.take_length]
      have hcl := came_le ka kb
      obtain ⟨hn1, hn2, hn3⟩ := HNum.out
      have hkl := kind_le 2 P
      clear HKid HNum ej
      generalize cameK ka kb = cm at *
      go_wp2_with fail
      go_loopw [22, 26] (fun mv i wz => ∃ t : Nat, t ≤ P.length ∧ i = .int .i64 (t : Int) ∧ mv = .int .i64 (kindN 2 (P.take t) : Nat) ∧ Hid (MvAt w3 wz db ka kb nA nB R last P ga gb gi pa) ∧ Hid (Below w.heap.size w wz)) (fun _ i _ => P.length - (intOf i).toNat)
      case atStart => exact ⟨0, Nat.zero_le _, rfl, rfl, HM', HB'⟩
      case round =>
        obtain ⟨t, ht, rfl, rfl, HM2, HB2⟩ := hrel
        clear HM' HB'
        by_cases htl : t < P.length
        · obtain ⟨gp, epa, lp, cp⟩ := HM2.out.cp (by omega)
          have Hpa := hide epa
          have ct := cp t htl
          have hks := kind_step (j := 2) htl
          have hkt := kind_le 2 (P.take t)
          rw [List.length_take] at hkt
          have Hks := hide hks
          clear hks cp epa
          generalize P[t].kind = kd at ct Hks
          generalize kindN 2 (P.take t) = mv at *
          have t1 : (0 : Int) ≤ (t : Int) := by omega
          have t2 : (t : Int) < (P.length : Int) := by omega
          have ePa := Hpa.out
          cases hq : (kd == 2) with
          | true =>
            have hks := Hks.out
            rw [if_pos (by simpa using hq)] at hks
            have Hk := hide hks
            clear hks Hks
            rw [ePa]
            clear ePa
            go_wp2_with fail
            refine ⟨⟨t + 1, htl, by go_num, by rw [Hk.out]; rfl, by rw [← Hpa.out]; exact HM2, HB2⟩, by simp [intOf]; omega⟩
          | false =>
            have hks := Hks.out
            rw [if_neg (by simpa using hq)] at hks
            have Hk := hide hks
            clear hks Hks
            rw [ePa]
            clear ePa
            go_wp2_with fail
            refine ⟨⟨t + 1, htl, by go_num, by rw [Hk.out]; rfl, by rw [← Hpa.out]; exact HM2, HB2⟩, by simp [intOf]; omega⟩
        · have et : t = P.length := by omega
          have tB : ¬ (t : Int) < (P.length : Int) := by omega
          rw [et, List.take_length]
          clear et
          have q1 := HlA.out
          have q2 := HlB.out
          generalize kindN 2 P = mv at *
          have hne : ((P.length : Int) != (cm : Int) * 2 + ((nA : Int) - ((nB : Int) - (cm : Int))) + ((mv : Int) - (cm : Int))) = false := by
            have e : (P.length : Int) = (cm : Int) * 2 + ((nA : Int) - ((nB : Int) - (cm : Int))) + ((mv : Int) - (cm : Int)) := by omega
            rw [← e]
            simp
          have hge : ¬ (mv : Int) - (cm : Int) < 0 := by omega
          have hi1 : (mv : Int) ≤ 100000 := by omega
          have hi2 : (P.length : Int) ≤ 100000 := by omega
          have hi3 : (cm : Int) ≤ 60 := by omega
          clear hn1 hn2 hn3 hkl hcl tB ht q1 q2
          by_cases hB2 : nB < 2
          · go_wp2_with fail
            go_ret
            exact ⟨rfl, HB2.out⟩
          · have hB0 : ¬ (nB : Int) < 2 := by omega
            have HPk : ∀ c w, I64 c → Calls Try.prog 22 #[.int .i64 c, .int .i64 ((nB : Int) - 1)] w fun e w' => e = .returned (.int .i64 (pickK c (nB - 1) : Nat)) ∧ w' = w := fun c w hc => by
              have e : ((nB : Int) - 1) = ((nB - 1 : Nat) : Int) := by omega
              rw [e]
              exact keepPick_any c (nB - 1) w (by omega) (by omega) hc.1 hc.2
            have HPf := hide fun w => HPk fr w hfr
            have HPt := hide fun w => HPk to w hto
            have hI := pickK_lt fr (n := nB - 1) (by omega)
            have hK := pickK_lt to (n := nB - 1) (by omega)
            clear HPk
            generalize pickK fr (nB - 1) = I at *
            generalize pickK to (nB - 1) = K at *
            go_wp2_with (first | (go_at_call_of 22 (Value.int IntKind.i64 fr); refine (unhide HPf _).mono ?_; rintro e wa ⟨rfl, rfl⟩) | (go_at_call_of 22 (Value.int IntKind.i64 to); refine (unhide HPt _).mono ?_; rintro e wa ⟨rfl, rfl⟩))
            have eI : (1 : Int) + (I : Int) = ((I + 1 : Nat) : Int) := by omega
            have eK : (1 : Int) + (K : Int) = ((K + 1 : Nat) : Int) := by omega
            rw [eI, eK]
            clear eI eK HPf HPt hne hge hi1 hi2 hi3
            obtain ⟨i0, hi0⟩ : ∃ i0, i0 = I + 1 := ⟨_, rfl⟩
            obtain ⟨k0, hk0⟩ : ∃ k0, k0 = K + 1 := ⟨_, rfl⟩
            rw [← hi0, ← hk0]
            have hi1 : 1 ≤ i0 := by omega
            have hi2 : i0 < nB := by omega
            have hk1 : 1 ≤ k0 := by omega
            have hk2 : k0 < nB := by omega
            clear hi0 hk0 hI hK
            go_loopw [31, 32] (fun c jv wz => ∃ (t : Nat) (q : Value), t ≤ nB ∧ jv = .int .i64 (t : Int) ∧ q = c ∧ Hid (wz.ownsRow wa.heap.size 28 5 q (cutN i0 t) (cutK kb i0 t)) ∧ Hid (Below wa.heap.size wa wz)) (fun _ jv _ => nB - (intOf jv).toNat)
            case atStart => exact ⟨0, _, Nat.zero_le _, rfl, rfl, hide (World.ownsRow_nil _ _ _ _), hide (Below.refl _ _)⟩
            case round =>
              obtain ⟨t, q, ht, rfl, rfl, HR, HBz⟩ := hrel
              have HMz := hide (HM2.out.below HBz.out)
              by_cases htl : t < nB
              · have t1 : (0 : Int) ≤ (t : Int) := by omega
                have t2 : (t : Int) < (nB : Int) := by omega
                by_cases hti : t = i0
                · subst hti
                  have g1 := cutK_skip (kb := kb) hi1 (by have := HlB.out; omega)
                  have HR2 : Hid (wr.ownsRow wa.heap.size 28 5 q (cutN t (t + 1)) (cutK kb t (t + 1))) := hide (by rw [g1.1, g1.2]; exact HR.out)
                  clear g1
                  go_wp2_with fail
                  refine ⟨⟨t + 1, q, htl, by go_num, rfl, HR2, HBz⟩, by simp [intOf]; omega⟩
                · have hti' : ¬ (t : Int) = (i0 : Int) := by omega
                  obtain ⟨g1, g2⟩ := cutK_on (kb := kb) (j := t) hi1 (by have := HlB.out; omega) hti
                  have hcN : cutN i0 t ≤ t := by unfold cutN; split <;> omega
                  have x0 := HMz.out.cb t htl 0 (by omega)
                  have x1 := HMz.out.cb t htl 1 (by omega)
                  have x2 := HMz.out.cb t htl 2 (by omega)
                  have x3 := HMz.out.cb t htl 3 (by omega)
                  have x4 := HMz.out.cb t htl 4 (by omega)
                  have lbr := HMz.out.lb
                  have Hg1 := hide g1
                  have Hg2 := hide g2
                  clear g1 g2
                  generalize kTree kb t = nd at *
                  rw [Nat.add_zero] at x0
                  replace x0 : wr.cell? ⟨gb, t * 5, none⟩ = some (.int .i64 nd.d) := x0
                  replace x1 : wr.cell? ⟨gb, t * 5 + 1, none⟩ = some (.string nd.t) := x1
                  replace x2 : wr.cell? ⟨gb, t * 5 + 2, none⟩ = some (.int .i64 nd.k) := x2
                  replace x3 : wr.cell? ⟨gb, t * 5 + 3, none⟩ = some (.slice nd.ao nd.an nd.ac) := x3
                  replace x4 : wr.cell? ⟨gb, t * 5 + 4, none⟩ = some (.string nd.x) := x4
                  have hsz := HBz.out.size
                  go_wp2_with ((at_builtin; refine wpList_app _ rfl (.tmp 179) (.tmp 184) 22 rfl wa.heap.size 28 ti _ 5 72 Try.underlying22 hi hz0 hz1 hz2 rfl q (cutN i0 t) _ rfl (HR.out.alloc _) (some ⟨wr.heap.size, 0, none⟩) 1 1 [.int .i64 nd.d, .string nd.t, .int .i64 nd.k, .slice nd.ao nd.an nd.ac, .string nd.x] rfl (by simp) rfl (cells_new _ _ _) (by simp [Value.oneCell']) (by omega) (by omega) (by simp; omega) ?_; intro v5 w5 ho5 hg5 _))
                  refine ⟨⟨t + 1, v5, htl, by go_num, rfl, hide (by rw [Hg1.out, Hg2.out]; exact ho5.out), hide ((HBz.out.alloc hsz _).grown hg5.out.by (by simp; omega) (fun b e => (HR.out.lt b e).1))⟩, by simp [intOf]; omega⟩
              · have et : t = nB := by omega
                have tB : ¬ (t : Int) < (nB : Int) := by omega
                have hB1 := HlB.out
                have hE := cutK_end (kb := kb) (i := i0) (by omega)
                have HR1 := HR.out
                rw [et, hB1, hE.1, hE.2] at HR1
                have hEl : (kb.eraseIdx (i0 - 1)).length + 1 = kb.length := by rw [List.length_eraseIdx, if_pos (by omega)]; omega
                obtain ⟨nC, hC⟩ : ∃ nC, nC = kb.length := ⟨_, rfl⟩
                rw [← hC] at HR1
                obtain ⟨gc, cc, rfl, hcc, lgc⟩ := keys_at' HR1 (by omega)
                have HCell : ∀ w', Below wr.heap.size wr w' → ∀ j, j < ((kb.eraseIdx (i0 - 1)).length + 1) * 5 → w'.cell? ⟨gc, j, none⟩ = (keyCells (kb.eraseIdx (i0 - 1)))[j]? := fun w' hb j hj => by
                  rw [hb.cell (p := ⟨gc, j, none⟩) lgc]
                  exact HR1.cellAt j (by omega)
                have HH : Hid (∀ w', Below wr.heap.size wr w' → ∀ a, some (⟨gc, 0, none⟩ : Addr) = some a → ∀ j u, (keyCells ((kb.eraseIdx (i0 - 1)).take (k0 - 1)))[j]? = some u → w'.cell? (a.add j) = some u) := hide fun w' hb => (news_head (HCell w' hb) hk1 (by omega)).2
                have HT : Hid (∀ w', Below wr.heap.size wr w' → ∀ a, some (⟨gc, k0 * 5, none⟩ : Addr) = some a → ∀ j u, (((kb.eraseIdx (i0 - 1)).drop (k0 - 1)).flatMap keyC)[j]? = some u → w'.cell? (a.add j) = some u) := hide fun w' hb => (news_tail (HCell w' hb) hk1 (by omega)).2
                have hHl := (news_head (HCell wr (Below.refl _ _)) hk1 (by omega)).1
                have hTl := (news_tail (HCell wr (Below.refl _ _)) hk1 (by omega)).1
                rw [hEl, ← hC] at hTl
                have HMv := hide (move_cells kb (k := k0 - 1) hi1)
                obtain ⟨N2, hN2⟩ : ∃ N2 : Nat, N2 = if i0 = k0 then 0 else 1 := ⟨_, rfl⟩
                have HD2 : Hid (∀ w1 B gr cr, Below wr.heap.size wr w1 → w1.ownsRow B 28 5 (.slice (some ⟨gr, 0, none⟩) nB cr) nB (keyCells (kMove kb (i0 - 1) (k0 - 1))) → Calls Try.prog 20 #[.pointer (some ⟨db, 0, none⟩), .slice (some ⟨gr, 0, none⟩) nB cr] w1 fun e w' => ∃ pa pc, e = .returned (.tuple #[.slice pa N2 pc, .int .i64 0, .int .i64 0]) ∧ Below w1.heap.size w1 w') := hide fun w1 B gr cr hb hr => by
                  have hM := HMz.out.below hb
                  refine mv_second HHb.out hb60 HlB.out w3 w1 db R last hM.last hM.st (i := i0 - 1) (k := k0 - 1) (by omega) (by omega) N2 ?_ B gr cr hr
                  rw [hN2]
                  split <;> split <;> first | rfl | omega
                have x0 := HMz.out.cb i0 hi2 0 (by omega)
                have x1 := HMz.out.cb i0 hi2 1 (by omega)
                have x2 := HMz.out.cb i0 hi2 2 (by omega)
                have x3 := HMz.out.cb i0 hi2 3 (by omega)
                have x4 := HMz.out.cb i0 hi2 4 (by omega)
                have lbr := HMz.out.lb
                have HO1 := hide (keyCells_one ((kb.eraseIdx (i0 - 1)).take (k0 - 1)))
                have HO2 := hide (keyC_one ((kb.eraseIdx (i0 - 1)).drop (k0 - 1)))
                generalize keyCells ((kb.eraseIdx (i0 - 1)).take (k0 - 1)) = xh at *
                generalize ((kb.eraseIdx (i0 - 1)).drop (k0 - 1)).flatMap keyC = xt at *
                generalize keyCells (kMove kb (i0 - 1) (k0 - 1)) = xm at *
                generalize kTree kb i0 = nd at *
                rw [Nat.add_zero] at x0
                replace x0 : wr.cell? ⟨gb, i0 * 5, none⟩ = some (.int .i64 nd.d) := x0
                replace x1 : wr.cell? ⟨gb, i0 * 5 + 1, none⟩ = some (.string nd.t) := x1
                replace x2 : wr.cell? ⟨gb, i0 * 5 + 2, none⟩ = some (.int .i64 nd.k) := x2
                replace x3 : wr.cell? ⟨gb, i0 * 5 + 3, none⟩ = some (.slice nd.ao nd.an nd.ac) := x3
                replace x4 : wr.cell? ⟨gb, i0 * 5 + 4, none⟩ = some (.string nd.x) := x4
                have HnC := hide (show 0 + k0 + 1 + (nC - k0) = nB by omega)
                have hcB : nC ≤ 60 := by omega
                have hkC : (k0 : Int) ≤ (nC : Int) := by omega
                have hkc : (k0 : Int) ≤ (cc : Int) := by omega
                have i1 : (0 : Int) ≤ (i0 : Int) := by omega
                have i2 : (i0 : Int) < (nB : Int) := by omega
                have k1 : (0 : Int) ≤ (k0 : Int) := by omega
                have HHl := hide hHl
                have HTl := hide hTl
                clear HR1 HCell hEl hC hB1 hE et hHl hTl HR HMz
                have HX : Hid (∀ w1, Below wr.heap.size wr w1 → w1.cell? ⟨gb, i0 * 5, none⟩ = some (.int .i64 nd.d) ∧ w1.cell? ⟨gb, i0 * 5 + 1, none⟩ = some (.string nd.t) ∧ w1.cell? ⟨gb, i0 * 5 + 2, none⟩ = some (.int .i64 nd.k) ∧ w1.cell? ⟨gb, i0 * 5 + 3, none⟩ = some (.slice nd.ao nd.an nd.ac) ∧ w1.cell? ⟨gb, i0 * 5 + 4, none⟩ = some (.string nd.x) ∧ gb < w1.heap.size) := hide fun w1 hb => ⟨(hb.cell (p := ⟨gb, _, none⟩) lbr).trans x0, (hb.cell (p := ⟨gb, _, none⟩) lbr).trans x1, (hb.cell (p := ⟨gb, _, none⟩) lbr).trans x2, (hb.cell (p := ⟨gb, _, none⟩) lbr).trans x3, (hb.cell (p := ⟨gb, _, none⟩) lbr).trans x4, Nat.lt_of_lt_of_le lbr hb.size⟩
                have HFin : Hid (∀ w8, Below wr.heap.size wr w8 → Below w.heap.size w w8) := hide fun w8 hb => (HB2.out.trans (HBz.out.mono HB2.out.size)).trans (hb.mono (HB2.out.trans (HBz.out.mono HB2.out.size)).size)
                have HC : ∃ (A : Addr) (mm : Nat), Hid (xt.length = mm * 5) ∧ Hid (0 + k0 + 1 + mm = nB) ∧ Hid (∀ w', Below wr.heap.size wr w' → ∀ a, some A = some a → ∀ j u, xt[j]? = some u → w'.cell? (a.add j) = some u) ∧ ((k0 = cc ∧ A = ⟨gc, 0, none⟩ ∧ mm = 0) ∨ (¬ cc = k0 ∧ A = ⟨gc, k0 * 5, none⟩ ∧ mm = nC - k0)) := by
                  by_cases hcap : k0 = cc
                  · refine ⟨⟨gc, 0, none⟩, 0, hide (HTl.out.trans (by omega)), hide (by have := HnC.out; omega), hide fun w' _ a _ j u hu => ?_, .inl ⟨hcap, rfl, rfl⟩⟩
                    have h1 := HTl.out
                    have h2 := (List.getElem?_eq_some_iff.1 hu).1
                    omega
                  · exact ⟨⟨gc, k0 * 5, none⟩, nC - k0, HTl, HnC, HT, .inr ⟨fun e => hcap e.symm, rfl, rfl⟩⟩
                clear HTl HnC HT
                obtain ⟨A, mm, HTl, HnC, HT, hA⟩ := HC
                have heq : (((i0 : Int) == (k0 : Int)) = true ∧ N2 = 0) ∨ (((i0 : Int) == (k0 : Int)) = false ∧ N2 = 1) := by
                  rw [hN2]
                  by_cases heq : i0 = k0
                  · exact .inl ⟨by rw [heq]; simp, if_pos heq⟩
                  · exact .inr ⟨beq_eq_false_iff_ne.2 (by omega), if_neg heq⟩
                clear hN2
                rcases heq with ⟨heq, rfl⟩ | ⟨heq, rfl⟩ <;> rcases hA with ⟨rfl, rfl, rfl⟩ | ⟨hcap, rfl, rfl⟩
                all_goals
                  go_wp2_with (first | (at_builtin; refine wpList_app _ rfl (.tmp 186) (.tmp 189) 22 rfl wr.heap.size 28 ti _ 5 72 Try.underlying22 hi hz0 hz1 hz2 rfl (.slice none 0 0) 0 [] rfl (World.ownsRow_nil _ _ _ _) (some ⟨gc, 0, none⟩) k0 _ xh rfl (by simp) HHl.out (HH.out _ (Below.refl _ _)) HO1.out (by omega) (by omega) (Nat.le_refl _) ?_; intro v5 w5 ho5 hg5 _; have hb5 : Below wr.heap.size wr w5 := (Below.refl _ _).grown hg5.out.by (Nat.le_refl _) (fun b e => by cases e); have HB5 := hide hb5; clear x0 x1 x2 x3 x4 lbr; obtain ⟨x0, x1, x2, x3, x4, lbr⟩ := HX.out _ hb5; have hsz5 := hb5.size; clear hb5 hg5) | (at_builtin; refine wpList_app _ rfl (.tmp 191) (.tmp 196) 22 rfl wr.heap.size 28 ti _ 5 72 Try.underlying22 hi hz0 hz1 hz2 rfl v5 (0 + k0) _ rfl (ho5.out.alloc _) (some ⟨w5.heap.size, 0, none⟩) 1 1 [.int .i64 nd.d, .string nd.t, .int .i64 nd.k, .slice nd.ao nd.an nd.ac, .string nd.x] rfl (by simp) rfl (cells_new _ _ _) (by simp [Value.oneCell']) (by omega) (by omega) (by simp; omega) ?_; intro v6 w6 ho6 hg6 _; have hb6 : Below wr.heap.size wr w6 := (HB5.out.alloc hsz5 _).grown hg6.out.by (by simp; omega) (fun b e => (ho5.out.lt b e).1); have HB6 := hide hb6; clear hb6 hg6) | (at_builtin; refine wpList_app _ rfl (.tmp 198) (.tmp 201) 22 rfl wr.heap.size 28 ti _ 5 72 Try.underlying22 hi hz0 hz1 hz2 rfl v6 (0 + k0 + 1) _ rfl ho6.out _ _ _ xt rfl (by simp) HTl.out (HT.out _ HB6.out) HO2.out (by omega) (by omega) HB6.out.size ?_; intro v7 w7' ho7 hg7 _; have hb7 : Below wr.heap.size wr w7' := HB6.out.grown hg7.out.by HB6.out.size (fun b e => (ho6.out.lt b e).1); have hq : w7'.ownsRow wr.heap.size 28 5 v7 nB xm := (by have h := ho7.out; rw [HnC.out] at h; rw [← HMv.out]; exact h); obtain ⟨gr, cr, rfl, _, _⟩ := keys_at' hq (by omega); have HB7 := hide hb7; have HQ := hide hq; clear hb7 hg7 hq ho7) | (go_at_call 20; refine (unhide HD2 _ _ _ _ HB7.out HQ.out).mono ?_; rintro e w8 ⟨pa2, pc2, rfl, hb8⟩; have HB8 := hide (HB7.out.trans (hb8.mono HB7.out.size)); clear hb8))
                  go_ret
                  exact ⟨rfl, HFin.out _ HB8.out⟩
end Go.Proofs.Ytobgcaemnpkbmaa
