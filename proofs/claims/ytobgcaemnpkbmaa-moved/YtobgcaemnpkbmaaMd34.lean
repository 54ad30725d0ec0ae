/- Fv -/
import Derived.Test.YtobgcaemnpkbmaaMd33
namespace Go.Proofs.Ytobgcaemnpkbmaa
open Go.RowKit
set_option maxHeartbeats 2000000 in
set_option maxRecDepth 100000 in
theorem bringKids_by (T : Int → NI) (nb : Int → Nat) (S : Int → Prop) (br : Br) (L : Nat → Nod) (f : Nat) (hbr : BringOk T nb S br L f) (hfew : BrFew br L f) (hTs : ∀ i, (T i).kids.length ≤ 1000 ∧ (T i).ats.length ≤ 5)
    (B WB : Nat) (pv : Value) (P : List Pat) (last : Int) (w : World) (h : WayAt B w WB pv P last) (hB : B ≤ w.heap.size) (hT : TableV WB pv w nb S T) (N : Nat) (id : Int) (x : NI) (hN : NodeV WB pv w nb N id x) (hx : x.Ok) (hxk : ∀ k, k ∈ x.kids → S k)
    (b o s n c : Nat) (hn : 1 ≤ n) (hf : n ≤ f + 1) (hc : n ≤ c) (hn2 : n ≤ 1000) (hL : PartV WB pv w b o n (fun i => L (s + i))) (hs : ∀ i, i < n → (L (s + i)).Small) (hP : P.length + 1020 * n ≤ 800011) (hl0 : 0 ≤ last) (hl1 : last + n ≤ 4611686018427387904)
    (C : Nat) (po : Option Addr) (m pc : Nat) (hrow : w.ownsRow C 22 1 (.slice po m pc) m (pieces b o c (partsOf L s n))) (hm : m = (partsOf L s n).length) (hfr : ∀ g, Value.ownBlock (.slice po m pc) = some g → Free WB pv w g) :
    Calls Try.prog 59 #[.pointer (some ⟨WB, 0, none⟩), .pointer (some ⟨N, 0, none⟩), .slice po m pc] w (Told B WB pv P w (bringKidsP br T L id x s n last)) := by
  obtain ⟨ko, kc, e6, h6⟩ := hN.c6
  have hxl := hx.kids
  have hml : m ≤ n := by rw [hm]; exact partsP_length _ _
  have HPr : Hid (Calls Try.prog 77 #[.pointer (some ⟨N, 0, none⟩), .slice po m pc] w fun e w' => ∃ q, e = .returned q ∧ w'.ownsRow w.heap.size 3 1 q m (ints (pairsOf T L x.kids s (partsOf L s n))) ∧ Below w.heap.size w w') := hide (pairs_of hT hN.free.1 e6 h6 hxk hxl hn hn2 hL hs hrow hm)
  have HB := hide hbr
  have HFw := hide hfew
  have H := hide h
  have HT := hide hT
  have HN := hide hN
  have HL := hide hL
  have HS := hide hs
  have HR := hide hrow
  have HF := hide hfr
  have H6 := hide h6
  have HM := hide hm
  have HX := hide hx
  have HXk := hide hxk
  clear hfew hbr h hT hN hL hs hrow hfr h6 hm hx hxk
  have HLn : Hid (((pairsOf T L x.kids s (partsOf L s n)).filter keepB).length ≤ 100000) := hide (by have := List.length_filter_le keepB (pairsOf T L x.kids s (partsOf L s n)); rw [pairsOf, pairsP_length] at this; rw [pairsOf]; have := partsP_length (fun i => (L (s + i)).d) n; unfold partsOf at *; omega)
  generalize hr : bringKidsP br T L id x s n last = r
  go_enter Try.func59, Try.ntmps59
  have HRm : Hid (∀ (w1 : World) (qa : Option Addr) (qc : Nat), Below w.heap.size w w1 → w1.ownsRow w.heap.size 3 1 (.slice qa m qc) m (ints (pairsOf T L x.kids s (partsOf L s n))) → Calls Try.prog 78 #[.pointer (some ⟨WB, 0, none⟩), .pointer (some ⟨N, 0, none⟩), .slice qa m qc] w1 fun e w' => e = .returned (.tuple #[]) ∧ ∃ pv', WayAt B w' WB pv' (P ++ remsP (fun j => x.kids.getD j 0) (pairsOf T L x.kids s (partsOf L s n)) x.kids.length) last ∧ Tells WB pv pv' w w' ∧ RowV WB pv' w' w.heap.size (.slice qa m qc) m (pairsOf T L x.kids s (partsOf L s n))) :=
    hide fun w1 qa qc hb hr => rems_of H.out hB HT.out HN.out.free e6 H6.out HXk.out hxl (by omega) hb (by omega) hr
  generalize hpr : pairsOf T L x.kids s (partsOf L s n) = pr at HPr HRm HLn
  have HQ := hide hpr
  clear hpr
  go_wp2_with (first | (go_at_call 77; refine (unhide HPr).mono ?_; rintro e w1 ⟨q1, rfl, hR1, hB1⟩; obtain ⟨qa, qc, rfl⟩ := own_shape hR1; have HR1 := hide hR1; have HB1 := hide hB1; clear hR1 hB1) | (go_at_call 78; refine (unhide HRm _ _ _ HB1.out HR1.out).mono ?_; rintro e w2 ⟨rfl, pv2, hW2, hT2, hR2⟩; have HW2 := hide hW2; have HT2 := hide hT2; have HR2 := hide hR2; clear hW2 hT2 hR2) | (go_at_call 81; refine (cloneI_any w.heap.size qa m qc pr _ HR2.out.row (by omega)).mono ?_; rintro e w3 ⟨q3, rfl, hR3, hB3⟩; obtain ⟨q3a, q3c, rfl⟩ := own_shape hR3; have HR3 := hide hR3; have HB3 := hide hB3; clear hR3 hB3) | (go_at_call 80; refine (deleteFuncI_any w2.heap.size q3a m q3c pr _ HR3.out (by omega)).mono ?_; rintro e w4 ⟨q4, rfl, hR4, hT4⟩; obtain ⟨q4a, q4c, rfl⟩ := own_shape hR4; have HR4 := hide hR4; have HT4 := hide hT4; clear hR4 hT4) | (go_at_call 79; refine (longestRow_v w2.heap.size q4a _ q4c (pr.filter keepB) (fun j => (pr.filter keepB).getD j 0) (fun j hj => by simp [hj]) _ HR4.out HLn.out).mono ?_; rintro e w5 ⟨q5, rfl, hR5, hB5⟩; obtain ⟨q5a, q5c, rfl⟩ := own_shape hR5; have HR5 := hide hR5; have HB5 := hide hB5; clear hR5 hB5))
  have hq5 : Tells WB pv pv2 w w5 := HT2.out.trans (.of_below (HB3.out.trans (Below.trans ⟨HT4.out.os, HT4.out.tape, HT4.out.output, Nat.le_trans HB3.out.size HT4.out.size |> fun _ => HT4.out.size, fun k hk => HT4.out.block k (Nat.lt_of_lt_of_le hk HB3.out.size) (by omega)⟩ (HB5.out.mono (Nat.le_trans HB3.out.size HT4.out.size)))))
  have hb25 : Below w2.heap.size w2 w5 := HB3.out.trans (Below.trans ⟨HT4.out.os, HT4.out.tape, HT4.out.output, HT4.out.size, fun k hk => HT4.out.block k (Nat.lt_of_lt_of_le hk HB3.out.size) (by omega)⟩ (HB5.out.mono (Nat.le_trans HB3.out.size HT4.out.size)))
  have hW5 : WayAt B w5 WB pv2 (P ++ remsP (fun j => x.kids.getD j 0) pr x.kids.length) last := HW2.out.below hb25
  have hRp : RowV WB pv2 w5 w.heap.size (.slice qa m qc) m pr := HR2.out.tells (.of_below hb25)
  have s24 : w2.heap.size ≤ w4.heap.size := Nat.le_trans HB3.out.size HT4.out.size
  have hS5 : StayV WB pv2 w5 q5a (stayOf pr) := .of_row HR5.out (fun g e => ⟨(HR5.out.lt g e).2, fun e2 => by have := HW2.out.lt; have := (HR5.out.lt g e).1; omega, fun e2 => by have := (HW2.out.row.lt g e2).2; have := (HR5.out.lt g e).1; omega⟩)
  have hcap : (stayOf pr).length ≤ q5c := own_cap HR5.out
  have HW5 := hide hW5
  have HRp := hide hRp
  have HS5 := hide hS5
  have HT5 := hide (HT.out.tells hq5)
  have HL5 := hide (HL.out.tells hq5)
  have HN5 := hide (HN.out.tells hq5)
  have HR0 := hide (own_heap HR.out fun g e => (HF.out g e).block hq5)
  have HF0 := hide (fun g e => (HF.out g e).tells hq5 : ∀ g, Value.ownBlock (.slice po m pc) = some g → Free WB pv2 w5 g)
  have E6 := hide ((HN.out.free.cell hq5).trans e6)
  have H65 : Hid (∀ j, j < x.kids.length → ∃ g, ko = some ⟨g, 0, none⟩ ∧ Free WB pv2 w5 g ∧ w5.cell? ⟨g, j, none⟩ = some (.pointer (some ⟨nb (x.kids.getD j 0), 0, none⟩))) := hide fun j hj => by
    obtain ⟨g, e, f, c⟩ := H6.out j hj
    exact ⟨g, e, f.tells hq5, (f.cell hq5).trans c⟩
  have hB5 : B ≤ w5.heap.size := Nat.le_trans hB hq5.touch.size
  have HQ5 := hide hq5
  generalize hps : partsOf L s n = ps at *
  obtain ⟨K, hK⟩ : ∃ K : Nat → KS, ∀ k, kidsDone br T L id x.kids s ps pr ⟨remsP (fun j => x.kids.getD j 0) pr x.kids.length, stayOf pr, last⟩ k = K k := ⟨_, fun _ => rfl⟩
  have HKs := hide hK
  have HPs := hide hps
  have hK0 : K 0 = ⟨remsP (fun j => x.kids.getD j 0) pr x.kids.length, stayOf pr, last⟩ := (hK 0).symm
  have hr2 : r = ((K m).pats, (K m).last) := by rw [← hr, HM.out, ← hK]; unfold bringKidsP; simp only [hps, HQ.out]
  have HR2' := hide hr2
  have HBd : Hid (∀ k, k < m → (1 ≤ (ps.getD k (0, 0)).1 ∧ (ps.getD k (0, 0)).1 < (ps.getD k (0, 0)).2 ∧ (ps.getD k (0, 0)).2 ≤ n) ∧ (P ++ (K k).pats).length + 2 + 1020 * ((ps.getD k (0, 0)).2 - (ps.getD k (0, 0)).1) ≤ 800000 ∧ 0 ≤ (K k).last ∧ (K k).last + 1 + (((ps.getD k (0, 0)).2 - (ps.getD k (0, 0)).1 : Nat) : Int) ≤ 4611686018427387904 ∧ (∀ y, y ∈ (K k).stay → y ∈ stayOf pr)) :=
    hide fun k hk => kids_bounds HFw.out hTs id hxl hn hf HS.out hP hl0 hl1 HPs.out pr k (by rw [HM.out] at hk; exact hk) (K k) (HKs.out k)
  have HPr2 : Hid (∀ k, k < m → pr.getD k 0 = -1 ∨ ∃ pn : Nat, pr.getD k 0 = (pn : Int) ∧ pn < x.kids.length) := hide fun k hk => by
    have hl : pr.length = m := by rw [← HQ.out, pairsOf_length, HM.out]
    have hm2 : pr.getD k 0 ∈ pr := by rw [List.getD_eq_getElem?_getD, List.getElem?_eq_getElem (by omega)]; exact List.getElem_mem _
    rw [← HQ.out] at hm2
    rcases pairsOf_range hm2 with e | ⟨h1, h2⟩
    · exact .inl (by rw [← HQ.out]; exact e)
    · rw [HQ.out] at h1 h2
      exact .inr ⟨(pr.getD k 0).toNat, by omega, by omega⟩
  have HSr : Hid (∀ y, y ∈ stayOf pr → ∃ yn : Nat, y = (yn : Int) ∧ yn < x.kids.length) := hide fun y hy => by
    obtain ⟨h1, h2⟩ := stayOf_range hy
    rw [← HQ.out] at h1
    rcases pairsOf_range h1 with e | ⟨h3, h4⟩
    · exact absurd e h2
    · exact ⟨y.toNat, by omega, by omega⟩
  clear HPr HRm HLn HW2 HT2 HR2 HB3 HT4 HR4 HB5 HR5 HR3 HR1 HB1 H HT HN HL HR HF H6 hr2 hK hr hps e6
  go_loopw [7, 8, 9, 10, 11, 25] (fun st _ _ _ _ c wr => ∃ k : Nat, c = .int .i64 (k : Int) ∧ k ≤ m ∧ ∃ so sn sc, st = .slice so sn sc ∧ sn = (K k).stay.length ∧ sn ≤ sc ∧ Hid (∃ pv', WayAt B wr WB pv' (P ++ (K k).pats) (K k).last ∧ Tells WB pv2 pv' w5 wr ∧ StayV WB pv' wr so (K k).stay)) (fun _ _ _ _ _ c _ => m - (intOf c).toNat)
  case atStart => exact ⟨0, rfl, Nat.zero_le _, q5a, _, q5c, rfl, by rw [hK0]; rfl, hcap, hide ⟨pv2, by rw [hK0]; exact HW5.out, .refl .., by rw [hK0]; exact HS5.out⟩⟩
  case round =>
    obtain ⟨k, rfl, hk, so, sn, sc, rfl, hsn, hsc, hE⟩ := hrel
    by_cases hlt : k < m
    · obtain ⟨pv1, hW1, hT1, hS1⟩ := hE.out
      clear hE hK0
      obtain ⟨ha, hb1, hb2, hb3, hb4⟩ := HBd.out k hlt
      have hst : K (k + 1) = kidStep br T L id x.kids s (K k) (ps.getD k (0, 0)) (pr.getD k 0) := by rw [← HKs.out, ← HKs.out]; rfl
      obtain ⟨pg, rfl, hpg, -, cpg⟩ := part_at HR0.out HM.out hlt
      have fpg := HF0.out pg rfl
      have cp : wr.cell? ⟨pg, k, none⟩ = some (.slice (some ⟨b, o + (ps.getD k (0, 0)).1 * 5, none⟩) ((ps.getD k (0, 0)).2 - (ps.getD k (0, 0)).1) (c - (ps.getD k (0, 0)).1)) := (fpg.cell hT1).trans cpg
      obtain ⟨qg, hql, rfl, hqg, cqg⟩ := row_at HRp.out.row hlt
      have fqg := HRp.out.free qg rfl
      have cq : wr.cell? ⟨qg, k, none⟩ = some (.int .i64 (pr.getD k 0)) := by
        rw [fqg.cell hT1, cqg, List.getD_eq_getElem?_getD]
        have : k < pr.length := by rw [ints_length] at hql; exact hql
        rw [List.getElem?_eq_getElem this]
        simp [ints]
      have c6 : wr.cell? ⟨N, 6, none⟩ = some (.slice ko x.kids.length kc) := (HN5.out.free.cell hT1).trans E6.out
      have hprk := HPr2.out k hlt
      have HSt := hide hst
      have HW1 := hide hW1
      have HFN := hide HN5.out.free
      have HFq := hide fqg
      have Cq5 : Hid (w5.cell? ⟨qg, k, none⟩ = some (.int .i64 (pr.getD k 0))) := hide ((fqg.cell hT1).symm.trans cq)
      have HT1 := hide hT1
      have lpg : pg < wr.heap.size := (fpg.tells hT1).1
      have lqg : qg < wr.heap.size := (fqg.tells hT1).1
      have lN : N < wr.heap.size := (HN5.out.free.tells hT1).1
      have HLk : Hid (∀ a, a = ps.getD k (0, 0) → True) := hide fun _ _ => trivial
      generalize K k = q at *
      generalize pr.getD k 0 = p at *
      generalize ps.getD k (0, 0) = a at *
      have HA := hide ha
      have HBb := hide (And.intro hb1 (And.intro hb2 hb3))
      clear cpg cqg hql hst hW1 hT1 fpg fqg hpg hqg ha hb1 hb2 hb3
      cases hqs : q.stay with
      | nil =>
        rw [hqs] at hsn hS1 hb4
        have hqn : q.stay.head? ≠ some p := by rw [hqs]; simp
        rcases hprk with hp | ⟨pn, hp, hpn⟩
        · subst hp
          have hnd := HL5.out.node a.1 (by have := HA.out; omega)
          have hsm := HS.out a.1 (by have := HA.out; omega)
          have fb := HL5.out.free
          have hs1 := hsm.tag
          have hs2 := hsm.text
          have d0 := (fb.cell HT1.out).trans hnd.c0
          have d1 := (fb.cell HT1.out).trans hnd.c1
          have d2 := (fb.cell HT1.out).trans hnd.c2
          have d3 := (fb.cell HT1.out).trans hnd.c3
          have d4 := (fb.cell HT1.out).trans hnd.c4
          have n0 := (HN5.out.free.cell HT1.out).trans HN5.out.c0
          have lb := (fb.tells HT1.out).1
          have HFb := hide fb
          have HS1 := hide hS1
          have ha12 : 0 < a.2 - a.1 := by have := HA.out; omega
          clear hnd hsm fb hS1 hb4
          have hst2 := HSt.out
          rw [kidStep_new hqn rfl] at hst2
          have HSt2 := hide hst2
          have HC2 : Hid (∀ pv' w' D, Tells WB pv2 pv' w5 w' → WayAt B w' WB pv' (P ++ q.pats ++ [⟨1, q.last + 1, 0, 0, (L (s + a.1)).k, (L (s + a.1)).t, ⟨#[]⟩, (L (s + a.1)).x⟩] ++ [⟨2, q.last + 1, id, befOf x.kids q.stay, 0, ⟨#[]⟩, ⟨#[]⟩, ⟨#[]⟩⟩]) (q.last + 1) → Free WB pv' w' D → w'.heap[D]? = some (.cells #[.int .i64 (q.last + 1), .int .i64 (L (s + a.1)).k, .string (L (s + a.1)).t, .string (L (s + a.1)).x, .slice none 0 0, .pointer none, .slice none 0 0] 79 (0, 0)) → Calls Try.prog 41 #[.pointer (some ⟨WB, 0, none⟩), .pointer (some ⟨D, 0, none⟩), .slice (some ⟨b, o + a.1 * 5, none⟩) (a.2 - a.1) (c - a.1)] w' (Told B WB pv' (P ++ q.pats ++ [⟨1, q.last + 1, 0, 0, (L (s + a.1)).k, (L (s + a.1)).t, ⟨#[]⟩, (L (s + a.1)).x⟩] ++ [⟨2, q.last + 1, id, befOf x.kids q.stay, 0, ⟨#[]⟩, ⟨#[]⟩, ⟨#[]⟩⟩]) w' (br (q.last + 1) ⟨(L (s + a.1)).k, (L (s + a.1)).t, (L (s + a.1)).x, [], []⟩ (s + a.1) (a.2 - a.1) (q.last + 1)))) := hide fun pv' w' D hT' hW' hD hd =>
            bring_made HB.out hB5 HT5.out hf hc hn2 HL5.out HS.out HA.out pv' w' _ _ hT' hW' (by have := HBb.out; simp only [List.length_append, List.length_cons, List.length_nil] at this ⊢; omega) (by have := HBb.out; omega) (by have := HBb.out; omega) D (q.last + 1) hD hd
          generalize hln : L (s + a.1) = ln at *
          generalize hbv : befOf x.kids q.stay = bv at *
          have HC1 : Hid (∀ w1, Below wr.heap.size wr w1 → Calls Try.prog 83 #[.pointer (some ⟨WB, 0, none⟩), .pointer (some ⟨N, 0, none⟩), .int .i64 (-1), .agg #[.int .i64 ln.d, .string ln.t, .int .i64 ln.k, .slice ln.ao ln.an ln.ac, .string ln.x]] w1 fun e w' => ∃ D pv', e = .returned (.pointer (some ⟨D, 0, none⟩)) ∧ w1.heap.size ≤ D ∧ Free WB pv' w' D ∧ w'.heap[D]? = some (.cells #[.int .i64 (q.last + 1), .int .i64 ln.k, .string ln.t, .string ln.x, .slice none 0 0, .pointer none, .slice none 0 0] 79 (0, 0)) ∧ WayAt B w' WB pv' (P ++ q.pats ++ [⟨1, q.last + 1, 0, 0, ln.k, ln.t, ⟨#[]⟩, ln.x⟩]) (q.last + 1) ∧ Tells WB pv1 pv' w1 w') := hide fun w1 hb =>
            kid_new B WB pv1 (P ++ q.pats) q.last w1 (HW1.out.below hb) (Nat.le_trans hB5 (Nat.le_trans HT1.out.touch.size hb.size)) (by have := HBb.out; omega) HBb.out.2.1 (by have := HBb.out; omega) N ln.d ln.k ln.t ln.x _ hs1 hs2
          clear hst2 HSt
          have hbv2 : bv = 0 := by rw [← hbv, hqs]; rfl
          clear hbv
          subst hbv2
          have hlnC := HSt2
          clear hlnC
          go_wp2_with fail
          go_big_quiet (fail)
          go_wp2_with fail
          have hb0 : Below wr.heap.size wr (wr.drewN nq) := drewN_of (.refl _ _) nq
          have mq : (wr.drewN nq).cell? ⟨qg, k, none⟩ = some (.int .i64 (-1)) := cq
          have m0 : (wr.drewN nq).cell? ⟨b, o + a.1 * 5, none⟩ = some (.int .i64 ln.d) := d0
          have m1 : (wr.drewN nq).cell? ⟨b, o + a.1 * 5 + 1, none⟩ = some (.string ln.t) := d1
          have m2 : (wr.drewN nq).cell? ⟨b, o + a.1 * 5 + 2, none⟩ = some (.int .i64 ln.k) := d2
          have m3 : (wr.drewN nq).cell? ⟨b, o + a.1 * 5 + 3, none⟩ = some (.slice ln.ao ln.an ln.ac) := d3
          have m4 : (wr.drewN nq).cell? ⟨b, o + a.1 * 5 + 4, none⟩ = some (.string ln.x) := d4
          generalize wr.drewN nq = x0 at hb0 mq m0 m1 m2 m3 m4 ⊢
          go_wp2_with fail
          have hS0 : (fun w' : World => w'.cell? ⟨qg, k, none⟩ = some (.int .i64 (-1)) ∧ w'.cell? ⟨b, o + a.1 * 5, none⟩ = some (.int .i64 ln.d) ∧ w'.cell? ⟨b, o + a.1 * 5 + 1, none⟩ = some (.string ln.t) ∧ w'.cell? ⟨b, o + a.1 * 5 + 2, none⟩ = some (.int .i64 ln.k) ∧ w'.cell? ⟨b, o + a.1 * 5 + 3, none⟩ = some (.slice ln.ao ln.an ln.ac) ∧ w'.cell? ⟨b, o + a.1 * 5 + 4, none⟩ = some (.string ln.x)) x0.drew := ⟨mq, m0, m1, m2, m3, m4⟩
          refine wp_region_last (S := (fun w' : World => w'.cell? ⟨qg, k, none⟩ = some (.int .i64 (-1)) ∧ w'.cell? ⟨b, o + a.1 * 5, none⟩ = some (.int .i64 ln.d) ∧ w'.cell? ⟨b, o + a.1 * 5 + 1, none⟩ = some (.string ln.t) ∧ w'.cell? ⟨b, o + a.1 * 5 + 2, none⟩ = some (.int .i64 ln.k) ∧ w'.cell? ⟨b, o + a.1 * 5 + 3, none⟩ = some (.slice ln.ao ln.an ln.ac) ∧ w'.cell? ⟨b, o + a.1 * 5 + 4, none⟩ = some (.string ln.x))) (by kernel_rfl) ?_
          refine wpAnyT_take (i := 0) (v := ?ve0) rfl (by kernel_rfl) (by kernel_rfl) (by kernel_rfl) (by kernel_rfl) (fun _ _ _ h => h) (Or.inl ⟨by rfl, ?hye0⟩) hS0 ?re0
          case hye0 => (intro w' hSw; (try obtain ⟨q0, q1, q2, q3, q4, q5⟩ := hSw); simp only [List.getElem_toArray, List.getElem_cons_zero]; go_simp; try (with_reducible rfl))
          simp only [List.getElem_toArray, List.getElem_cons_zero, Act.put, List.setIfInBounds_toArray, List.set_cons_zero, List.set_cons_succ]
          refine wpAnyT_take (i := 1) (v := ?ve1) rfl (by kernel_rfl) (by kernel_rfl) (by kernel_rfl) (by kernel_rfl) (fun _ _ _ h => h) (Or.inl ⟨by rfl, ?hye1⟩) hS0 ?re1
          case hye1 => (intro w' hSw; (try obtain ⟨q0, q1, q2, q3, q4, q5⟩ := hSw); simp only [List.getElem_toArray, List.getElem_cons_zero, List.getElem_cons_succ]; go_simp; try (with_reducible rfl))
          simp only [List.getElem_toArray, List.getElem_cons_zero, List.getElem_cons_succ, Act.put, List.setIfInBounds_toArray, List.set_cons_zero, List.set_cons_succ]
          refine wpAnyT_take (i := 2) (v := ?ve2) rfl (by kernel_rfl) (by kernel_rfl) (by kernel_rfl) (by kernel_rfl) (fun _ _ _ h => h) (Or.inl ⟨by rfl, ?hye2⟩) hS0 ?re2
          case hye2 => (intro w' hSw; (try obtain ⟨q0, q1, q2, q3, q4, q5⟩ := hSw); simp only [List.getElem_toArray, List.getElem_cons_zero, List.getElem_cons_succ]; go_simp; try (with_reducible rfl))
          simp only [List.getElem_toArray, List.getElem_cons_zero, List.getElem_cons_succ, Act.put, List.setIfInBounds_toArray, List.set_cons_zero, List.set_cons_succ]
          refine wpAnyT_take (i := 3) (v := ?ve3) rfl (by kernel_rfl) (by kernel_rfl) (by kernel_rfl) (by kernel_rfl) (fun _ _ _ h => h) (Or.inl ⟨by rfl, ?hye3⟩) hS0 ?re3
          case hye3 => (intro w' hSw; (try obtain ⟨q0, q1, q2, q3, q4, q5⟩ := hSw); simp only [List.getElem_toArray, List.getElem_cons_zero, List.getElem_cons_succ]; go_simp; try (with_reducible rfl))
          simp only [List.getElem_toArray, List.getElem_cons_zero, List.getElem_cons_succ, Act.put, List.setIfInBounds_toArray, List.set_cons_zero, List.set_cons_succ]
          refine wpAnyT_take (i := 4) (v := ?ve4) rfl (by kernel_rfl) (by kernel_rfl) (by kernel_rfl) (by kernel_rfl) (fun _ _ _ h => h) (Or.inl ⟨by rfl, ?hye4⟩) hS0 ?re4
          case hye4 => (intro w' hSw; (try obtain ⟨q0, q1, q2, q3, q4, q5⟩ := hSw); simp only [List.getElem_toArray, List.getElem_cons_zero, List.getElem_cons_succ]; go_simp; try (with_reducible rfl))
          simp only [List.getElem_toArray, List.getElem_cons_zero, List.getElem_cons_succ, Act.put, List.setIfInBounds_toArray, List.set_cons_zero, List.set_cons_succ]
          refine wpAnyT_take (i := 5) (v := ?ve5) rfl (by kernel_rfl) (by kernel_rfl) (by kernel_rfl) (by kernel_rfl) (fun _ _ _ h => h) (Or.inl ⟨by rfl, ?hye5⟩) hS0 ?re5
          case hye5 => (intro w' hSw; (try obtain ⟨q0, q1, q2, q3, q4, q5⟩ := hSw); simp only [List.getElem_toArray, List.getElem_cons_zero, List.getElem_cons_succ]; go_simp; try (with_reducible rfl))
          simp only [List.getElem_toArray, List.getElem_cons_zero, List.getElem_cons_succ, Act.put, List.setIfInBounds_toArray, List.set_cons_zero, List.set_cons_succ]
          refine wpAnyT_take (i := 6) (v := ?ve6) rfl (by kernel_rfl) (by kernel_rfl) (by kernel_rfl) (by kernel_rfl) (fun _ _ _ h => h) (Or.inl ⟨by rfl, ?hye6⟩) hS0 ?re6
          case hye6 => (intro w' hSw; (try obtain ⟨q0, q1, q2, q3, q4, q5⟩ := hSw); simp only [List.getElem_toArray, List.getElem_cons_zero, List.getElem_cons_succ]; go_simp; try (with_reducible rfl))
          simp only [List.getElem_toArray, List.getElem_cons_zero, List.getElem_cons_succ, Act.put, List.setIfInBounds_toArray, List.set_cons_zero, List.set_cons_succ]
          refine wpAnyT_take (i := 7) (v := ?ve7) rfl (by kernel_rfl) (by kernel_rfl) (by kernel_rfl) (by kernel_rfl) (fun _ _ _ h => h) (Or.inl ⟨by rfl, ?hye7⟩) hS0 ?re7
          case hye7 => (intro w' hSw; (try obtain ⟨q0, q1, q2, q3, q4, q5⟩ := hSw); simp only [List.getElem_toArray, List.getElem_cons_zero, List.getElem_cons_succ]; go_simp; try (with_reducible rfl))
          simp only [List.getElem_toArray, List.getElem_cons_zero, List.getElem_cons_succ, Act.put, List.setIfInBounds_toArray, List.set_cons_zero, List.set_cons_succ]
          refine wpAnyT_take (i := 8) (v := ?ve8) rfl (by kernel_rfl) (by kernel_rfl) (by kernel_rfl) (by kernel_rfl) (fun _ _ _ h => h) (Or.inl ⟨by rfl, ?hye8⟩) hS0 ?re8
          case hye8 => (intro w' hSw; (try obtain ⟨q0, q1, q2, q3, q4, q5⟩ := hSw); simp only [List.getElem_toArray, List.getElem_cons_zero, List.getElem_cons_succ]; go_simp; try (with_reducible rfl))
          simp only [List.getElem_toArray, List.getElem_cons_zero, List.getElem_cons_succ, Act.put, List.setIfInBounds_toArray, List.set_cons_zero, List.set_cons_succ]
          refine wpAnyT_one (i := 9) rfl (by kernel_rfl) (by rfl) ?_
          simp only [List.getElem_toArray, List.getElem_cons_zero, List.getElem_cons_succ]
          go_simp
          refine (HC1.out _ hb0.drew).mono ?_
          rintro e x3 ⟨D, pvk, rfl, hDD, hFD, hbD, hWk, hTk0⟩
          have hTk := (HT1.out.trans (.of_below hb0.drew)).trans hTk0
          have hS0 : (fun w' : World => w'.cell? ⟨qg, k, none⟩ = some (.int .i64 (-1)) ∧ w'.cell? ⟨b, o + a.1 * 5, none⟩ = some (.int .i64 ln.d) ∧ w'.cell? ⟨b, o + a.1 * 5 + 1, none⟩ = some (.string ln.t) ∧ w'.cell? ⟨b, o + a.1 * 5 + 2, none⟩ = some (.int .i64 ln.k) ∧ w'.cell? ⟨b, o + a.1 * 5 + 3, none⟩ = some (.slice ln.ao ln.an ln.ac) ∧ w'.cell? ⟨b, o + a.1 * 5 + 4, none⟩ = some (.string ln.x)) x3 := ⟨(HFq.out.cell hTk).trans Cq5.out, (HFb.out.cell hTk).trans ((HFb.out.cell HT1.out).symm.trans d0), (HFb.out.cell hTk).trans ((HFb.out.cell HT1.out).symm.trans d1), (HFb.out.cell hTk).trans ((HFb.out.cell HT1.out).symm.trans d2), (HFb.out.cell hTk).trans ((HFb.out.cell HT1.out).symm.trans d3), (HFb.out.cell hTk).trans ((HFb.out.cell HT1.out).symm.trans d4)⟩
          refine ⟨.inr hS0, ?_⟩
          refine wpAnyT_take (i := 10) (v := ?ve10) rfl (by kernel_rfl) (by kernel_rfl) (by kernel_rfl) (by kernel_rfl) (fun _ _ _ h => h) (Or.inl ⟨by rfl, ?hye10⟩) hS0 ?re10
          case hye10 => (intro w' hSw; (try obtain ⟨q0, q1, q2, q3, q4, q5⟩ := hSw); simp only [List.getElem_toArray, List.getElem_cons_zero, List.getElem_cons_succ]; go_simp; try (with_reducible rfl))
          simp only [List.getElem_toArray, List.getElem_cons_zero, List.getElem_cons_succ, Act.put, List.setIfInBounds_toArray, List.set_cons_zero, List.set_cons_succ]
          refine wpAnyT_done (by kernel_rfl) ?_ _
          have mD : x3.cell? ⟨D, 0, none⟩ = some (.int .i64 (q.last + 1)) := cell_of_blk hbD 0 _ rfl
          generalize hii : q.last + 1 = i at *
          have HFD := hide hFD
          have HBD := hide hbD
          have HWk := hide hWk
          clear hFD hbD hDD hWk
          have mN : x3.cell? ⟨N, 0, none⟩ = some (.int .i64 id) := (HFN.out.cell hTk).trans HN5.out.c0
          have HFN3 := hide (HFN.out.tells hTk)
          have HTk := hide hTk
          have HSk := hide (HS1.out.tells ((Tells.of_below hb0.drew).trans hTk0))
          have hBk : B ≤ x3.heap.size := Nat.le_trans hB5 hTk.touch.size
          clear hTk hTk0 hS0 mq m0 m1 m2 m3 m4 hb0
          go_wp2_with fail
          have hS0 : (fun w' : World => w'.cell? ⟨D, 0, none⟩ = some (.int .i64 i) ∧ w'.cell? ⟨N, 0, none⟩ = some (.int .i64 id)) x3.drew := ⟨mD, mN⟩
          refine wp_region_last (S := (fun w' : World => w'.cell? ⟨D, 0, none⟩ = some (.int .i64 i) ∧ w'.cell? ⟨N, 0, none⟩ = some (.int .i64 id))) (by kernel_rfl) ?_
          refine wpAnyT_take (i := 0) (v := ?vet0) rfl (by kernel_rfl) (by kernel_rfl) (by kernel_rfl) (by kernel_rfl) (fun _ _ _ h => h) (Or.inl ⟨by rfl, ?hyet0⟩) hS0 ?ret0
          case hyet0 => (intro w' hSw; (try obtain ⟨q0, q1⟩ := hSw); simp only [List.getElem_toArray, List.getElem_cons_zero]; go_simp; try (with_reducible rfl))
          simp only [List.getElem_toArray, List.getElem_cons_zero, Act.put, List.setIfInBounds_toArray, List.set_cons_zero, List.set_cons_succ]
          refine wpAnyT_take (i := 1) (v := ?vet1) rfl (by kernel_rfl) (by kernel_rfl) (by kernel_rfl) (by kernel_rfl) (fun _ _ _ h => h) (Or.inl ⟨by rfl, ?hyet1⟩) hS0 ?ret1
          case hyet1 => (intro w' hSw; (try obtain ⟨q0, q1⟩ := hSw); simp only [List.getElem_toArray, List.getElem_cons_zero, List.getElem_cons_succ]; go_simp; try (with_reducible rfl))
          simp only [List.getElem_toArray, List.getElem_cons_zero, List.getElem_cons_succ, Act.put, List.setIfInBounds_toArray, List.set_cons_zero, List.set_cons_succ]
          refine wpAnyT_take (i := 2) (v := ?vet2) rfl (by kernel_rfl) (by kernel_rfl) (by kernel_rfl) (by kernel_rfl) (fun _ _ _ h => h) (Or.inl ⟨by rfl, ?hyet2⟩) hS0 ?ret2
          case hyet2 => (intro w' hSw; (try obtain ⟨q0, q1⟩ := hSw); simp only [List.getElem_toArray, List.getElem_cons_zero, List.getElem_cons_succ]; go_simp; try (with_reducible rfl))
          simp only [List.getElem_toArray, List.getElem_cons_zero, List.getElem_cons_succ, Act.put, List.setIfInBounds_toArray, List.set_cons_zero, List.set_cons_succ]
          refine wpAnyT_take (i := 3) (v := ?vet3) rfl (by kernel_rfl) (by kernel_rfl) (by kernel_rfl) (by kernel_rfl) (fun _ _ _ h => h) (Or.inl ⟨by rfl, ?hyet3⟩) hS0 ?ret3
          case hyet3 => (intro w' hSw; (try obtain ⟨q0, q1⟩ := hSw); simp only [List.getElem_toArray, List.getElem_cons_zero, List.getElem_cons_succ]; go_simp; try (with_reducible rfl))
          simp only [List.getElem_toArray, List.getElem_cons_zero, List.getElem_cons_succ, Act.put, List.setIfInBounds_toArray, List.set_cons_zero, List.set_cons_succ]
          refine wpAnyT_take (i := 4) (v := ?vet4) rfl (by kernel_rfl) (by kernel_rfl) (by kernel_rfl) (by kernel_rfl) (fun _ _ _ h => h) (Or.inl ⟨by rfl, ?hyet4⟩) hS0 ?ret4
          case hyet4 => (intro w' hSw; (try obtain ⟨q0, q1⟩ := hSw); simp only [List.getElem_toArray, List.getElem_cons_zero, List.getElem_cons_succ]; go_simp; try (with_reducible rfl))
          simp only [List.getElem_toArray, List.getElem_cons_zero, List.getElem_cons_succ, Act.put, List.setIfInBounds_toArray, List.set_cons_zero, List.set_cons_succ]
          refine wpAnyT_take (i := 5) (v := ?vet5) rfl (by kernel_rfl) (by kernel_rfl) (by kernel_rfl) (by kernel_rfl) (fun _ _ _ h => h) (Or.inl ⟨by rfl, ?hyet5⟩) hS0 ?ret5
          case hyet5 => (intro w' hSw; (try obtain ⟨q0, q1⟩ := hSw); simp only [List.getElem_toArray, List.getElem_cons_zero, List.getElem_cons_succ]; go_simp; try (with_reducible rfl))
          simp only [List.getElem_toArray, List.getElem_cons_zero, List.getElem_cons_succ, Act.put, List.setIfInBounds_toArray, List.set_cons_zero, List.set_cons_succ]
          refine wpAnyT_take (i := 6) (v := ?vet6) rfl (by kernel_rfl) (by kernel_rfl) (by kernel_rfl) (by kernel_rfl) (fun _ _ _ h => h) (Or.inl ⟨by rfl, ?hyet6⟩) hS0 ?ret6
          case hyet6 => (intro w' hSw; (try obtain ⟨q0, q1⟩ := hSw); simp only [List.getElem_toArray, List.getElem_cons_zero, List.getElem_cons_succ]; go_simp; try (with_reducible rfl))
          simp only [List.getElem_toArray, List.getElem_cons_zero, List.getElem_cons_succ, Act.put, List.setIfInBounds_toArray, List.set_cons_zero, List.set_cons_succ]
          refine wpAnyT_take (i := 7) (v := ?vet7) rfl (by kernel_rfl) (by kernel_rfl) (by kernel_rfl) (by kernel_rfl) (fun _ _ _ h => h) (Or.inl ⟨by rfl, ?hyet7⟩) hS0 ?ret7
          case hyet7 => (intro w' hSw; (try obtain ⟨q0, q1⟩ := hSw); simp only [List.getElem_toArray, List.getElem_cons_zero, List.getElem_cons_succ]; go_simp; try (with_reducible rfl))
          simp only [List.getElem_toArray, List.getElem_cons_zero, List.getElem_cons_succ, Act.put, List.setIfInBounds_toArray, List.set_cons_zero, List.set_cons_succ]
          refine wpAnyT_take (i := 8) (v := ?vet8) rfl (by kernel_rfl) (by kernel_rfl) (by kernel_rfl) (by kernel_rfl) (fun _ _ _ h => h) (Or.inl ⟨by rfl, ?hyet8⟩) hS0 ?ret8
          case hyet8 => (intro w' hSw; (try obtain ⟨q0, q1⟩ := hSw); simp only [List.getElem_toArray, List.getElem_cons_zero, List.getElem_cons_succ]; go_simp; try (with_reducible rfl))
          simp only [List.getElem_toArray, List.getElem_cons_zero, List.getElem_cons_succ, Act.put, List.setIfInBounds_toArray, List.set_cons_zero, List.set_cons_succ]
          refine wpAnyT_take (i := 9) (v := ?vet9) rfl (by kernel_rfl) (by kernel_rfl) (by kernel_rfl) (by kernel_rfl) (fun _ _ _ h => h) (Or.inl ⟨by rfl, ?hyet9⟩) hS0 ?ret9
          case hyet9 => (intro w' hSw; (try obtain ⟨q0, q1⟩ := hSw); simp only [List.getElem_toArray, List.getElem_cons_zero, List.getElem_cons_succ]; go_simp; try (with_reducible rfl))
          simp only [List.getElem_toArray, List.getElem_cons_zero, List.getElem_cons_succ, Act.put, List.setIfInBounds_toArray, List.set_cons_zero, List.set_cons_succ]
          refine wpAnyT_take (i := 10) (v := ?vet10) rfl (by kernel_rfl) (by kernel_rfl) (by kernel_rfl) (by kernel_rfl) (fun _ _ _ h => h) (Or.inl ⟨by rfl, ?hyet10⟩) hS0 ?ret10
          case hyet10 => (intro w' hSw; (try obtain ⟨q0, q1⟩ := hSw); simp only [List.getElem_toArray, List.getElem_cons_zero, List.getElem_cons_succ]; go_simp; try (with_reducible rfl))
          simp only [List.getElem_toArray, List.getElem_cons_zero, List.getElem_cons_succ, Act.put, List.setIfInBounds_toArray, List.set_cons_zero, List.set_cons_succ]
          refine wpAnyT_one (i := 11) rfl (by kernel_rfl) (by rfl) ?_
          simp only [List.getElem_toArray, List.getElem_cons_zero, List.getElem_cons_succ]
          go_simp
          refine ⟨.inr ?_, ?_⟩
          · exact ⟨((((Below.refl x3.heap.size x3).alloc (Nat.le_refl _) _).cell (p := ⟨D, 0, none⟩) (World.block_lt_of_cell? _ _ mD))).trans mD, ((((Below.refl x3.heap.size x3).alloc (Nat.le_refl _) _).cell (p := ⟨N, 0, none⟩) (World.block_lt_of_cell? _ _ mN))).trans mN⟩
          clear hS0
          refine wpAnyT_one (i := 12) rfl (by kernel_rfl) (by rfl) ?_
          simp only [List.getElem_toArray, List.getElem_cons_zero, List.getElem_cons_succ]
          go_simp
          refine (tell_new B WB pvk (P ++ q.pats ++ [⟨1, i, 0, 0, ln.k, ln.t, ⟨#[]⟩, ln.x⟩]) i x3 HWk.out hBk (by have := HBb.out; simp only [List.length_append, List.length_cons, List.length_nil] at this ⊢; omega) 2 i id 0 0 ⟨#[]⟩ ⟨#[]⟩ ⟨#[]⟩ (by decide) (by decide) (by decide)).mono ?_
          rintro e x4 ⟨rfl, pv4, hW4, hT4⟩
          refine ⟨.inr ⟨(HFD.out.cell hT4).trans mD, (HFN3.out.cell hT4).trans mN⟩, ?_⟩
          have HW4 := hide hW4
          have HT4' := hide hT4
          have HT4 := hide (HTk.out.trans hT4)
          have HS4 := hide (HSk.out.tells hT4)
          have HCb := hide (HC2.out pv4 x4 D (HTk.out.trans hT4) hW4 (HFD.out.tells hT4) ((HFD.out.block hT4).trans HBD.out))
          clear hW4 hT4 mD mN
          refine wpAnyT_done (by kernel_rfl) ?_ _
          go_wp2_with (first | (go_at_call 41; refine (unhide HCb).mono ?_; rintro e x5 ⟨rfl, pv5, hW5', hT5'⟩; have HW5' := hide hW5'; have HT5' := hide (HT4.out.trans hT5'); have HS5' := hide (HS4.out.tells hT5'); clear hW5' hT5'))
          go_roundw
          case rel =>
            have hst3 := HSt2.out
            refine ⟨k + 1, by go_num, hlt, _, _, _, rfl, ?_, ?_, hide ⟨pv5, ?_, HT5'.out, ?_⟩⟩
            · rw [hst3]; simp [hqs]
            · simp at hsc ⊢
            · rw [hst3]; simpa [List.append_assoc] using HW5'.out
            · rw [hst3]; simpa [hqs] using HS5'.out
          case measure => simp [intOf]; omega
        · subst hp
          have hnd := HL5.out.node a.1 (by have := HA.out; omega)
          have hsm := HS.out a.1 (by have := HA.out; omega)
          have fb := HL5.out.free
          have hs1 := hsm.tag
          have hs2 := hsm.text
          have d0 := (fb.cell HT1.out).trans hnd.c0
          have d1 := (fb.cell HT1.out).trans hnd.c1
          have d2 := (fb.cell HT1.out).trans hnd.c2
          have d3 := (fb.cell HT1.out).trans hnd.c3
          have d4 := (fb.cell HT1.out).trans hnd.c4
          have n0 := (HN5.out.free.cell HT1.out).trans HN5.out.c0
          have lb := (fb.tells HT1.out).1
          have HFb := hide fb
          have HS1 := hide hS1
          have ha12 : 0 < a.2 - a.1 := by have := HA.out; omega
          clear hnd hsm fb hS1 hb4
          obtain ⟨kg, rfl, fkg, ckg⟩ := H65.out pn hpn
          have ck : wr.cell? ⟨kg, pn, none⟩ = some (.pointer (some ⟨nb (x.kids.getD pn 0), 0, none⟩)) := (fkg.cell HT1.out).trans ckg
          have hmem : S (x.kids.getD pn 0) := HXk.out _ (by rw [List.getD_eq_getElem?_getD, List.getElem?_eq_getElem hpn]; exact List.getElem_mem _)
          have hnV := HT5.out.node _ hmem
          have HC2 : Hid (∀ pv' w', Tells WB pv2 pv' w5 w' → WayAt B w' WB pv' (P ++ q.pats ++ [⟨2, x.kids.getD pn 0, id, befOf x.kids q.stay, 0, ⟨#[]⟩, ⟨#[]⟩, ⟨#[]⟩⟩]) q.last → Calls Try.prog 41 #[.pointer (some ⟨WB, 0, none⟩), .pointer (some ⟨nb (x.kids.getD pn 0), 0, none⟩), .slice (some ⟨b, o + a.1 * 5, none⟩) (a.2 - a.1) (c - a.1)] w' (Told B WB pv' (P ++ q.pats ++ [⟨2, x.kids.getD pn 0, id, befOf x.kids q.stay, 0, ⟨#[]⟩, ⟨#[]⟩, ⟨#[]⟩⟩]) w' (br (x.kids.getD pn 0) (T (x.kids.getD pn 0)) (s + a.1) (a.2 - a.1) q.last))) := hide fun pv' w' hT' hW' =>
            bring_kid HB.out hB5 HT5.out hf hc hn2 HL5.out HS.out HA.out hmem pv' w' _ _ hT' hW' (by have := HBb.out; simp only [List.length_append, List.length_cons, List.length_nil] at this ⊢; omega) HBb.out.2.1 (by have := HBb.out; omega)
          have hst2 := HSt.out
          rw [kidStep_move hqn (by omega)] at hst2
          have HSt2 := hide hst2
          have HDf := hide hnV.free
          have HD0 := hide hnV.c0
          have HFk := hide fkg
          have HCk := hide ckg
          generalize hln : L (s + a.1) = ln at *
          rw [Int.toNat_natCast] at HSt2
          generalize T (x.kids.getD pn 0) = xi at *
          generalize hDD : nb (x.kids.getD pn 0) = D at *
          generalize x.kids.getD pn 0 = i at *
          generalize hbv : befOf x.kids q.stay = bv at *
          have HC1 : Hid (∀ w1, Below wr.heap.size wr w1 → Calls Try.prog 83 #[.pointer (some ⟨WB, 0, none⟩), .pointer (some ⟨N, 0, none⟩), .int .i64 (pn : Int), .agg #[.int .i64 ln.d, .string ln.t, .int .i64 ln.k, .slice ln.ao ln.an ln.ac, .string ln.x]] w1 fun e w' => e = .returned (.pointer (some ⟨D, 0, none⟩)) ∧ Below w1.heap.size w1 w') := hide fun w1 hb =>
            kid_old WB N x.kids.length kc pn kg D hpn ln.d ln.k ln.t ln.x _ w1 ((hb.cell (p := ⟨N, 6, none⟩) lN).trans c6) ((hb.cell (p := ⟨kg, pn, none⟩) (HFk.out.tells HT1.out).1).trans ck)
          clear hnV fkg ckg hst2 HSt
          have hbv2 : bv = 0 := by rw [← hbv, hqs]; rfl
          clear hbv
          subst hbv2
          have hlnC := HSt2
          clear hlnC
          go_wp2_with fail
          go_big_quiet (fail)
          go_wp2_with fail
          have hb0 : Below wr.heap.size wr (wr.drewN nq) := drewN_of (.refl _ _) nq
          have mq : (wr.drewN nq).cell? ⟨qg, k, none⟩ = some (.int .i64 (pn : Int)) := cq
          have m0 : (wr.drewN nq).cell? ⟨b, o + a.1 * 5, none⟩ = some (.int .i64 ln.d) := d0
          have m1 : (wr.drewN nq).cell? ⟨b, o + a.1 * 5 + 1, none⟩ = some (.string ln.t) := d1
          have m2 : (wr.drewN nq).cell? ⟨b, o + a.1 * 5 + 2, none⟩ = some (.int .i64 ln.k) := d2
          have m3 : (wr.drewN nq).cell? ⟨b, o + a.1 * 5 + 3, none⟩ = some (.slice ln.ao ln.an ln.ac) := d3
          have m4 : (wr.drewN nq).cell? ⟨b, o + a.1 * 5 + 4, none⟩ = some (.string ln.x) := d4
          generalize wr.drewN nq = x0 at hb0 mq m0 m1 m2 m3 m4 ⊢
          go_wp2_with fail
          have hS0 : (fun w' : World => w'.cell? ⟨qg, k, none⟩ = some (.int .i64 (pn : Int)) ∧ w'.cell? ⟨b, o + a.1 * 5, none⟩ = some (.int .i64 ln.d) ∧ w'.cell? ⟨b, o + a.1 * 5 + 1, none⟩ = some (.string ln.t) ∧ w'.cell? ⟨b, o + a.1 * 5 + 2, none⟩ = some (.int .i64 ln.k) ∧ w'.cell? ⟨b, o + a.1 * 5 + 3, none⟩ = some (.slice ln.ao ln.an ln.ac) ∧ w'.cell? ⟨b, o + a.1 * 5 + 4, none⟩ = some (.string ln.x)) x0.drew := ⟨mq, m0, m1, m2, m3, m4⟩
          refine wp_region_last (S := (fun w' : World => w'.cell? ⟨qg, k, none⟩ = some (.int .i64 (pn : Int)) ∧ w'.cell? ⟨b, o + a.1 * 5, none⟩ = some (.int .i64 ln.d) ∧ w'.cell? ⟨b, o + a.1 * 5 + 1, none⟩ = some (.string ln.t) ∧ w'.cell? ⟨b, o + a.1 * 5 + 2, none⟩ = some (.int .i64 ln.k) ∧ w'.cell? ⟨b, o + a.1 * 5 + 3, none⟩ = some (.slice ln.ao ln.an ln.ac) ∧ w'.cell? ⟨b, o + a.1 * 5 + 4, none⟩ = some (.string ln.x))) (by kernel_rfl) ?_
          refine wpAnyT_take (i := 0) (v := ?vf0) rfl (by kernel_rfl) (by kernel_rfl) (by kernel_rfl) (by kernel_rfl) (fun _ _ _ h => h) (Or.inl ⟨by rfl, ?hyf0⟩) hS0 ?rf0
          case hyf0 => (intro w' hSw; (try obtain ⟨q0, q1, q2, q3, q4, q5⟩ := hSw); simp only [List.getElem_toArray, List.getElem_cons_zero]; go_simp; try (with_reducible rfl))
          simp only [List.getElem_toArray, List.getElem_cons_zero, Act.put, List.setIfInBounds_toArray, List.set_cons_zero, List.set_cons_succ]
          refine wpAnyT_take (i := 1) (v := ?vf1) rfl (by kernel_rfl) (by kernel_rfl) (by kernel_rfl) (by kernel_rfl) (fun _ _ _ h => h) (Or.inl ⟨by rfl, ?hyf1⟩) hS0 ?rf1
          case hyf1 => (intro w' hSw; (try obtain ⟨q0, q1, q2, q3, q4, q5⟩ := hSw); simp only [List.getElem_toArray, List.getElem_cons_zero, List.getElem_cons_succ]; go_simp; try (with_reducible rfl))
          simp only [List.getElem_toArray, List.getElem_cons_zero, List.getElem_cons_succ, Act.put, List.setIfInBounds_toArray, List.set_cons_zero, List.set_cons_succ]
          refine wpAnyT_take (i := 2) (v := ?vf2) rfl (by kernel_rfl) (by kernel_rfl) (by kernel_rfl) (by kernel_rfl) (fun _ _ _ h => h) (Or.inl ⟨by rfl, ?hyf2⟩) hS0 ?rf2
          case hyf2 => (intro w' hSw; (try obtain ⟨q0, q1, q2, q3, q4, q5⟩ := hSw); simp only [List.getElem_toArray, List.getElem_cons_zero, List.getElem_cons_succ]; go_simp; try (with_reducible rfl))
          simp only [List.getElem_toArray, List.getElem_cons_zero, List.getElem_cons_succ, Act.put, List.setIfInBounds_toArray, List.set_cons_zero, List.set_cons_succ]
          refine wpAnyT_take (i := 3) (v := ?vf3) rfl (by kernel_rfl) (by kernel_rfl) (by kernel_rfl) (by kernel_rfl) (fun _ _ _ h => h) (Or.inl ⟨by rfl, ?hyf3⟩) hS0 ?rf3
          case hyf3 => (intro w' hSw; (try obtain ⟨q0, q1, q2, q3, q4, q5⟩ := hSw); simp only [List.getElem_toArray, List.getElem_cons_zero, List.getElem_cons_succ]; go_simp; try (with_reducible rfl))
          simp only [List.getElem_toArray, List.getElem_cons_zero, List.getElem_cons_succ, Act.put, List.setIfInBounds_toArray, List.set_cons_zero, List.set_cons_succ]
          refine wpAnyT_take (i := 4) (v := ?vf4) rfl (by kernel_rfl) (by kernel_rfl) (by kernel_rfl) (by kernel_rfl) (fun _ _ _ h => h) (Or.inl ⟨by rfl, ?hyf4⟩) hS0 ?rf4
          case hyf4 => (intro w' hSw; (try obtain ⟨q0, q1, q2, q3, q4, q5⟩ := hSw); simp only [List.getElem_toArray, List.getElem_cons_zero, List.getElem_cons_succ]; go_simp; try (with_reducible rfl))
          simp only [List.getElem_toArray, List.getElem_cons_zero, List.getElem_cons_succ, Act.put, List.setIfInBounds_toArray, List.set_cons_zero, List.set_cons_succ]
          refine wpAnyT_take (i := 5) (v := ?vf5) rfl (by kernel_rfl) (by kernel_rfl) (by kernel_rfl) (by kernel_rfl) (fun _ _ _ h => h) (Or.inl ⟨by rfl, ?hyf5⟩) hS0 ?rf5
          case hyf5 => (intro w' hSw; (try obtain ⟨q0, q1, q2, q3, q4, q5⟩ := hSw); simp only [List.getElem_toArray, List.getElem_cons_zero, List.getElem_cons_succ]; go_simp; try (with_reducible rfl))
          simp only [List.getElem_toArray, List.getElem_cons_zero, List.getElem_cons_succ, Act.put, List.setIfInBounds_toArray, List.set_cons_zero, List.set_cons_succ]
          refine wpAnyT_take (i := 6) (v := ?vf6) rfl (by kernel_rfl) (by kernel_rfl) (by kernel_rfl) (by kernel_rfl) (fun _ _ _ h => h) (Or.inl ⟨by rfl, ?hyf6⟩) hS0 ?rf6
          case hyf6 => (intro w' hSw; (try obtain ⟨q0, q1, q2, q3, q4, q5⟩ := hSw); simp only [List.getElem_toArray, List.getElem_cons_zero, List.getElem_cons_succ]; go_simp; try (with_reducible rfl))
          simp only [List.getElem_toArray, List.getElem_cons_zero, List.getElem_cons_succ, Act.put, List.setIfInBounds_toArray, List.set_cons_zero, List.set_cons_succ]
          refine wpAnyT_take (i := 7) (v := ?vf7) rfl (by kernel_rfl) (by kernel_rfl) (by kernel_rfl) (by kernel_rfl) (fun _ _ _ h => h) (Or.inl ⟨by rfl, ?hyf7⟩) hS0 ?rf7
          case hyf7 => (intro w' hSw; (try obtain ⟨q0, q1, q2, q3, q4, q5⟩ := hSw); simp only [List.getElem_toArray, List.getElem_cons_zero, List.getElem_cons_succ]; go_simp; try (with_reducible rfl))
          simp only [List.getElem_toArray, List.getElem_cons_zero, List.getElem_cons_succ, Act.put, List.setIfInBounds_toArray, List.set_cons_zero, List.set_cons_succ]
          refine wpAnyT_take (i := 8) (v := ?vf8) rfl (by kernel_rfl) (by kernel_rfl) (by kernel_rfl) (by kernel_rfl) (fun _ _ _ h => h) (Or.inl ⟨by rfl, ?hyf8⟩) hS0 ?rf8
          case hyf8 => (intro w' hSw; (try obtain ⟨q0, q1, q2, q3, q4, q5⟩ := hSw); simp only [List.getElem_toArray, List.getElem_cons_zero, List.getElem_cons_succ]; go_simp; try (with_reducible rfl))
          simp only [List.getElem_toArray, List.getElem_cons_zero, List.getElem_cons_succ, Act.put, List.setIfInBounds_toArray, List.set_cons_zero, List.set_cons_succ]
          refine wpAnyT_one (i := 9) rfl (by kernel_rfl) (by rfl) ?_
          simp only [List.getElem_toArray, List.getElem_cons_zero, List.getElem_cons_succ]
          go_simp
          refine (HC1.out _ hb0.drew).mono ?_
          rintro e x3 ⟨rfl, hbk⟩
          have hTk0 : Tells WB pv1 pv1 x0.drew x3 := .of_below hbk
          have hTk := (HT1.out.trans (.of_below hb0.drew)).trans hTk0
          have hWk := (HW1.out.below hb0.drew).below hbk
          have hS0 : (fun w' : World => w'.cell? ⟨qg, k, none⟩ = some (.int .i64 (pn : Int)) ∧ w'.cell? ⟨b, o + a.1 * 5, none⟩ = some (.int .i64 ln.d) ∧ w'.cell? ⟨b, o + a.1 * 5 + 1, none⟩ = some (.string ln.t) ∧ w'.cell? ⟨b, o + a.1 * 5 + 2, none⟩ = some (.int .i64 ln.k) ∧ w'.cell? ⟨b, o + a.1 * 5 + 3, none⟩ = some (.slice ln.ao ln.an ln.ac) ∧ w'.cell? ⟨b, o + a.1 * 5 + 4, none⟩ = some (.string ln.x)) x3 := ⟨(HFq.out.cell hTk).trans Cq5.out, (HFb.out.cell hTk).trans ((HFb.out.cell HT1.out).symm.trans d0), (HFb.out.cell hTk).trans ((HFb.out.cell HT1.out).symm.trans d1), (HFb.out.cell hTk).trans ((HFb.out.cell HT1.out).symm.trans d2), (HFb.out.cell hTk).trans ((HFb.out.cell HT1.out).symm.trans d3), (HFb.out.cell hTk).trans ((HFb.out.cell HT1.out).symm.trans d4)⟩
          refine ⟨.inr hS0, ?_⟩
          refine wpAnyT_take (i := 10) (v := ?vf10) rfl (by kernel_rfl) (by kernel_rfl) (by kernel_rfl) (by kernel_rfl) (fun _ _ _ h => h) (Or.inl ⟨by rfl, ?hyf10⟩) hS0 ?rf10
          case hyf10 => (intro w' hSw; (try obtain ⟨q0, q1, q2, q3, q4, q5⟩ := hSw); simp only [List.getElem_toArray, List.getElem_cons_zero, List.getElem_cons_succ]; go_simp; try (with_reducible rfl))
          simp only [List.getElem_toArray, List.getElem_cons_zero, List.getElem_cons_succ, Act.put, List.setIfInBounds_toArray, List.set_cons_zero, List.set_cons_succ]
          refine wpAnyT_done (by kernel_rfl) ?_ _
          have mD : x3.cell? ⟨D, 0, none⟩ = some (.int .i64 i) := (HDf.out.cell hTk).trans HD0.out
          have HFD := hide (HDf.out.tells hTk)
          have HWk := hide hWk
          clear hWk hbk
          have mN : x3.cell? ⟨N, 0, none⟩ = some (.int .i64 id) := (HFN.out.cell hTk).trans HN5.out.c0
          have HFN3 := hide (HFN.out.tells hTk)
          have HTk := hide hTk
          have HSk := hide (HS1.out.tells ((Tells.of_below hb0.drew).trans hTk0))
          have hBk : B ≤ x3.heap.size := Nat.le_trans hB5 hTk.touch.size
          clear hTk hTk0 hS0 mq m0 m1 m2 m3 m4 hb0
          go_wp2_with fail
          have hS0 : (fun w' : World => w'.cell? ⟨D, 0, none⟩ = some (.int .i64 i) ∧ w'.cell? ⟨N, 0, none⟩ = some (.int .i64 id)) x3.drew := ⟨mD, mN⟩
          refine wp_region_last (S := (fun w' : World => w'.cell? ⟨D, 0, none⟩ = some (.int .i64 i) ∧ w'.cell? ⟨N, 0, none⟩ = some (.int .i64 id))) (by kernel_rfl) ?_
          refine wpAnyT_take (i := 0) (v := ?vft0) rfl (by kernel_rfl) (by kernel_rfl) (by kernel_rfl) (by kernel_rfl) (fun _ _ _ h => h) (Or.inl ⟨by rfl, ?hyft0⟩) hS0 ?rft0
          case hyft0 => (intro w' hSw; (try obtain ⟨q0, q1⟩ := hSw); simp only [List.getElem_toArray, List.getElem_cons_zero]; go_simp; try (with_reducible rfl))
          simp only [List.getElem_toArray, List.getElem_cons_zero, Act.put, List.setIfInBounds_toArray, List.set_cons_zero, List.set_cons_succ]
          refine wpAnyT_take (i := 1) (v := ?vft1) rfl (by kernel_rfl) (by kernel_rfl) (by kernel_rfl) (by kernel_rfl) (fun _ _ _ h => h) (Or.inl ⟨by rfl, ?hyft1⟩) hS0 ?rft1
          case hyft1 => (intro w' hSw; (try obtain ⟨q0, q1⟩ := hSw); simp only [List.getElem_toArray, List.getElem_cons_zero, List.getElem_cons_succ]; go_simp; try (with_reducible rfl))
          simp only [List.getElem_toArray, List.getElem_cons_zero, List.getElem_cons_succ, Act.put, List.setIfInBounds_toArray, List.set_cons_zero, List.set_cons_succ]
          refine wpAnyT_take (i := 2) (v := ?vft2) rfl (by kernel_rfl) (by kernel_rfl) (by kernel_rfl) (by kernel_rfl) (fun _ _ _ h => h) (Or.inl ⟨by rfl, ?hyft2⟩) hS0 ?rft2
          case hyft2 => (intro w' hSw; (try obtain ⟨q0, q1⟩ := hSw); simp only [List.getElem_toArray, List.getElem_cons_zero, List.getElem_cons_succ]; go_simp; try (with_reducible rfl))
          simp only [List.getElem_toArray, List.getElem_cons_zero, List.getElem_cons_succ, Act.put, List.setIfInBounds_toArray, List.set_cons_zero, List.set_cons_succ]
          refine wpAnyT_take (i := 3) (v := ?vft3) rfl (by kernel_rfl) (by kernel_rfl) (by kernel_rfl) (by kernel_rfl) (fun _ _ _ h => h) (Or.inl ⟨by rfl, ?hyft3⟩) hS0 ?rft3
          case hyft3 => (intro w' hSw; (try obtain ⟨q0, q1⟩ := hSw); simp only [List.getElem_toArray, List.getElem_cons_zero, List.getElem_cons_succ]; go_simp; try (with_reducible rfl))
          simp only [List.getElem_toArray, List.getElem_cons_zero, List.getElem_cons_succ, Act.put, List.setIfInBounds_toArray, List.set_cons_zero, List.set_cons_succ]
          refine wpAnyT_take (i := 4) (v := ?vft4) rfl (by kernel_rfl) (by kernel_rfl) (by kernel_rfl) (by kernel_rfl) (fun _ _ _ h => h) (Or.inl ⟨by rfl, ?hyft4⟩) hS0 ?rft4
          case hyft4 => (intro w' hSw; (try obtain ⟨q0, q1⟩ := hSw); simp only [List.getElem_toArray, List.getElem_cons_zero, List.getElem_cons_succ]; go_simp; try (with_reducible rfl))
          simp only [List.getElem_toArray, List.getElem_cons_zero, List.getElem_cons_succ, Act.put, List.setIfInBounds_toArray, List.set_cons_zero, List.set_cons_succ]
          refine wpAnyT_take (i := 5) (v := ?vft5) rfl (by kernel_rfl) (by kernel_rfl) (by kernel_rfl) (by kernel_rfl) (fun _ _ _ h => h) (Or.inl ⟨by rfl, ?hyft5⟩) hS0 ?rft5
          case hyft5 => (intro w' hSw; (try obtain ⟨q0, q1⟩ := hSw); simp only [List.getElem_toArray, List.getElem_cons_zero, List.getElem_cons_succ]; go_simp; try (with_reducible rfl))
          simp only [List.getElem_toArray, List.getElem_cons_zero, List.getElem_cons_succ, Act.put, List.setIfInBounds_toArray, List.set_cons_zero, List.set_cons_succ]
          refine wpAnyT_take (i := 6) (v := ?vft6) rfl (by kernel_rfl) (by kernel_rfl) (by kernel_rfl) (by kernel_rfl) (fun _ _ _ h => h) (Or.inl ⟨by rfl, ?hyft6⟩) hS0 ?rft6
          case hyft6 => (intro w' hSw; (try obtain ⟨q0, q1⟩ := hSw); simp only [List.getElem_toArray, List.getElem_cons_zero, List.getElem_cons_succ]; go_simp; try (with_reducible rfl))
          simp only [List.getElem_toArray, List.getElem_cons_zero, List.getElem_cons_succ, Act.put, List.setIfInBounds_toArray, List.set_cons_zero, List.set_cons_succ]
          refine wpAnyT_take (i := 7) (v := ?vft7) rfl (by kernel_rfl) (by kernel_rfl) (by kernel_rfl) (by kernel_rfl) (fun _ _ _ h => h) (Or.inl ⟨by rfl, ?hyft7⟩) hS0 ?rft7
          case hyft7 => (intro w' hSw; (try obtain ⟨q0, q1⟩ := hSw); simp only [List.getElem_toArray, List.getElem_cons_zero, List.getElem_cons_succ]; go_simp; try (with_reducible rfl))
          simp only [List.getElem_toArray, List.getElem_cons_zero, List.getElem_cons_succ, Act.put, List.setIfInBounds_toArray, List.set_cons_zero, List.set_cons_succ]
          refine wpAnyT_take (i := 8) (v := ?vft8) rfl (by kernel_rfl) (by kernel_rfl) (by kernel_rfl) (by kernel_rfl) (fun _ _ _ h => h) (Or.inl ⟨by rfl, ?hyft8⟩) hS0 ?rft8
          case hyft8 => (intro w' hSw; (try obtain ⟨q0, q1⟩ := hSw); simp only [List.getElem_toArray, List.getElem_cons_zero, List.getElem_cons_succ]; go_simp; try (with_reducible rfl))
          simp only [List.getElem_toArray, List.getElem_cons_zero, List.getElem_cons_succ, Act.put, List.setIfInBounds_toArray, List.set_cons_zero, List.set_cons_succ]
          refine wpAnyT_take (i := 9) (v := ?vft9) rfl (by kernel_rfl) (by kernel_rfl) (by kernel_rfl) (by kernel_rfl) (fun _ _ _ h => h) (Or.inl ⟨by rfl, ?hyft9⟩) hS0 ?rft9
          case hyft9 => (intro w' hSw; (try obtain ⟨q0, q1⟩ := hSw); simp only [List.getElem_toArray, List.getElem_cons_zero, List.getElem_cons_succ]; go_simp; try (with_reducible rfl))
          simp only [List.getElem_toArray, List.getElem_cons_zero, List.getElem_cons_succ, Act.put, List.setIfInBounds_toArray, List.set_cons_zero, List.set_cons_succ]
          refine wpAnyT_take (i := 10) (v := ?vft10) rfl (by kernel_rfl) (by kernel_rfl) (by kernel_rfl) (by kernel_rfl) (fun _ _ _ h => h) (Or.inl ⟨by rfl, ?hyft10⟩) hS0 ?rft10
          case hyft10 => (intro w' hSw; (try obtain ⟨q0, q1⟩ := hSw); simp only [List.getElem_toArray, List.getElem_cons_zero, List.getElem_cons_succ]; go_simp; try (with_reducible rfl))
          simp only [List.getElem_toArray, List.getElem_cons_zero, List.getElem_cons_succ, Act.put, List.setIfInBounds_toArray, List.set_cons_zero, List.set_cons_succ]
          refine wpAnyT_one (i := 11) rfl (by kernel_rfl) (by rfl) ?_
          simp only [List.getElem_toArray, List.getElem_cons_zero, List.getElem_cons_succ]
          go_simp
          refine ⟨.inr ?_, ?_⟩
          · exact ⟨((((Below.refl x3.heap.size x3).alloc (Nat.le_refl _) _).cell (p := ⟨D, 0, none⟩) (World.block_lt_of_cell? _ _ mD))).trans mD, ((((Below.refl x3.heap.size x3).alloc (Nat.le_refl _) _).cell (p := ⟨N, 0, none⟩) (World.block_lt_of_cell? _ _ mN))).trans mN⟩
          clear hS0
          refine wpAnyT_one (i := 12) rfl (by kernel_rfl) (by rfl) ?_
          simp only [List.getElem_toArray, List.getElem_cons_zero, List.getElem_cons_succ]
          go_simp
          refine (tell_new B WB pv1 (P ++ q.pats) q.last x3 HWk.out hBk (by have := HBb.out; simp only [List.length_append] at this ⊢; omega) 2 i id 0 0 ⟨#[]⟩ ⟨#[]⟩ ⟨#[]⟩ (by decide) (by decide) (by decide)).mono ?_
          rintro e x4 ⟨rfl, pv4, hW4, hT4⟩
          refine ⟨.inr ⟨(HFD.out.cell hT4).trans mD, (HFN3.out.cell hT4).trans mN⟩, ?_⟩
          have HW4 := hide hW4
          have HT4' := hide hT4
          have HT4 := hide (HTk.out.trans hT4)
          have HS4 := hide (HSk.out.tells hT4)
          have HCb := hide (HC2.out pv4 x4 (HTk.out.trans hT4) hW4)
          clear hW4 hT4 mD mN
          refine wpAnyT_done (by kernel_rfl) ?_ _
          go_wp2_with (first | (go_at_call 41; refine (unhide HCb).mono ?_; rintro e x5 ⟨rfl, pv5, hW5', hT5'⟩; have HW5' := hide hW5'; have HT5' := hide (HT4.out.trans hT5'); have HS5' := hide (HS4.out.tells hT5'); clear hW5' hT5'))
          go_roundw
          case rel =>
            have hst3 := HSt2.out
            refine ⟨k + 1, by go_num, hlt, _, _, _, rfl, ?_, ?_, hide ⟨pv5, ?_, HT5'.out, ?_⟩⟩
            · rw [hst3]; simp [hqs]
            · simp at hsc ⊢
            · rw [hst3]; simpa [List.append_assoc] using HW5'.out
            · rw [hst3]; simpa [hqs] using HS5'.out
          case measure => simp [intOf]; omega
      | cons p0 t =>
        rw [hqs] at hsn hS1 hb4
        obtain ⟨sg, so', rfl, fsg, csg, hS2⟩ := hS1.head
        obtain ⟨yn, rfl, hyn⟩ := HSr.out p0 (hb4 _ (List.mem_cons_self ..))
        have lsg := fsg.1
        by_cases he : p = (yn : Int)
        · subst he
          obtain ⟨kg, rfl, fkg, ckg⟩ := H65.out yn hyn
          have ck : wr.cell? ⟨kg, yn, none⟩ = some (.pointer (some ⟨nb (x.kids.getD yn 0), 0, none⟩)) := (fkg.cell HT1.out).trans ckg
          have lkg := (fkg.tells HT1.out).1
          have HS2 : Hid (∀ so2, so2 = some ⟨sg, so' + 1, none⟩ ∨ t.length = 0 → StayV WB pv1 wr so2 t) := hide fun so2 e => by
            rcases e with rfl | e
            · exact hS2
            · exact fun j hj => by omega
          have HFs := hide fsg
          have HFk := hide fkg
          have hmem : S (x.kids.getD yn 0) := HXk.out _ (by rw [List.getD_eq_getElem?_getD, List.getElem?_eq_getElem hyn]; exact List.getElem_mem _)
          have HC : Hid (∀ w1, Below wr.heap.size wr w1 → Calls Try.prog 41 #[.pointer (some ⟨WB, 0, none⟩), .pointer (some ⟨nb (x.kids.getD yn 0), 0, none⟩), .slice (some ⟨b, o + a.1 * 5, none⟩) (a.2 - a.1) (c - a.1)] w1 (Told B WB pv1 (P ++ q.pats) w1 (br (x.kids.getD yn 0) (T (x.kids.getD yn 0)) (s + a.1) (a.2 - a.1) q.last))) := hide fun w1 hb =>
            bring_kid HB.out hB5 HT5.out hf hc hn2 HL5.out HS.out HA.out hmem pv1 w1 _ _ (HT1.out.trans (.of_below hb)) (HW1.out.below hb) (by have := HBb.out; omega) HBb.out.2.1 (by have := HBb.out; omega)
          generalize nb (x.kids.getD yn 0) = D at ck ckg HC
          clear hS1 hS2 fsg fkg hb4 hprk
          have hsn0 : 0 < sn := by rw [hsn]; simp
          generalize hsn' : sn = sn' at *
          go_wp2_with fail
          go_big_quiet (fail)
          have hb0 : Below wr.heap.size wr (wr.drewN nq) := drewN_of (.refl _ _) nq
          have m6 : (wr.drewN nq).cell? ⟨N, 6, none⟩ = some (.slice (some ⟨kg, 0, none⟩) x.kids.length kc) := c6
          have mq : (wr.drewN nq).cell? ⟨qg, k, none⟩ = some (.int .i64 (yn : Int)) := cq
          have mk : (wr.drewN nq).cell? ⟨kg, yn, none⟩ = some (.pointer (some ⟨D, 0, none⟩)) := ck
          generalize wr.drewN nq = x0 at hb0 m6 mq mk ⊢
          go_wp2_with fail
          · have hS0 : (fun w' : World => w'.cell? ⟨N, 6, none⟩ = some (.slice (some ⟨kg, 0, none⟩) x.kids.length kc) ∧ w'.cell? ⟨qg, k, none⟩ = some (.int .i64 (yn : Int)) ∧ w'.cell? ⟨kg, yn, none⟩ = some (.pointer (some ⟨D, 0, none⟩))) x0.drew := ⟨m6, mq, mk⟩
            refine wp_region_last (S := (fun w' : World => w'.cell? ⟨N, 6, none⟩ = some (.slice (some ⟨kg, 0, none⟩) x.kids.length kc) ∧ w'.cell? ⟨qg, k, none⟩ = some (.int .i64 (yn : Int)) ∧ w'.cell? ⟨kg, yn, none⟩ = some (.pointer (some ⟨D, 0, none⟩)))) (by kernel_rfl) ?_
            refine wpAnyT_take (i := 0) (v := ?va0) rfl (by kernel_rfl) (by kernel_rfl) (by kernel_rfl) (by kernel_rfl) (fun _ _ _ h => h) (Or.inl ⟨by rfl, ?hya0⟩) hS0 ?ra0
            case hya0 => (intro w' hSw; (try obtain ⟨q0, q1, q2⟩ := hSw); simp only [List.getElem_toArray, List.getElem_cons_zero]; go_simp; try (with_reducible rfl))
            simp only [List.getElem_toArray, List.getElem_cons_zero, Act.put, List.setIfInBounds_toArray, List.set_cons_zero, List.set_cons_succ]
            refine wpAnyT_take (i := 1) (v := ?va1) rfl (by kernel_rfl) (by kernel_rfl) (by kernel_rfl) (by kernel_rfl) (fun _ _ _ h => h) (Or.inl ⟨by rfl, ?hya1⟩) hS0 ?ra1
            case hya1 => (intro w' hSw; (try obtain ⟨q0, q1, q2⟩ := hSw); simp only [List.getElem_toArray, List.getElem_cons_zero, List.getElem_cons_succ]; go_simp; try (with_reducible rfl))
            simp only [List.getElem_toArray, List.getElem_cons_zero, List.getElem_cons_succ, Act.put, List.setIfInBounds_toArray, List.set_cons_zero, List.set_cons_succ]
            refine wpAnyT_take (i := 2) (v := ?va2) rfl (by kernel_rfl) (by kernel_rfl) (by kernel_rfl) (by kernel_rfl) (fun _ _ _ h => h) (Or.inl ⟨by rfl, ?hya2⟩) hS0 ?ra2
            case hya2 => (intro w' hSw; (try obtain ⟨q0, q1, q2⟩ := hSw); simp only [List.getElem_toArray, List.getElem_cons_zero, List.getElem_cons_succ]; go_simp; try (with_reducible rfl))
            simp only [List.getElem_toArray, List.getElem_cons_zero, List.getElem_cons_succ, Act.put, List.setIfInBounds_toArray, List.set_cons_zero, List.set_cons_succ]
            refine wpAnyT_take (i := 3) (v := ?va3) rfl (by kernel_rfl) (by kernel_rfl) (by kernel_rfl) (by kernel_rfl) (fun _ _ _ h => h) (Or.inl ⟨by rfl, ?hya3⟩) hS0 ?ra3
            case hya3 => (intro w' hSw; (try obtain ⟨q0, q1, q2⟩ := hSw); simp only [List.getElem_toArray, List.getElem_cons_zero, List.getElem_cons_succ]; go_simp; try (with_reducible rfl))
            simp only [List.getElem_toArray, List.getElem_cons_zero, List.getElem_cons_succ, Act.put, List.setIfInBounds_toArray, List.set_cons_zero, List.set_cons_succ]
            refine wpAnyT_take (i := 4) (v := ?va4) rfl (by kernel_rfl) (by kernel_rfl) (by kernel_rfl) (by kernel_rfl) (fun _ _ _ h => h) (Or.inl ⟨by rfl, ?hya4⟩) hS0 ?ra4
            case hya4 => (intro w' hSw; (try obtain ⟨q0, q1, q2⟩ := hSw); simp only [List.getElem_toArray, List.getElem_cons_zero, List.getElem_cons_succ]; go_simp; try (with_reducible rfl))
            simp only [List.getElem_toArray, List.getElem_cons_zero, List.getElem_cons_succ, Act.put, List.setIfInBounds_toArray, List.set_cons_zero, List.set_cons_succ]
            refine wpAnyT_take (i := 5) (v := ?va5) rfl (by kernel_rfl) (by kernel_rfl) (by kernel_rfl) (by kernel_rfl) (fun _ _ _ h => h) (Or.inl ⟨by rfl, ?hya5⟩) hS0 ?ra5
            case hya5 => (intro w' hSw; (try obtain ⟨q0, q1, q2⟩ := hSw); simp only [List.getElem_toArray, List.getElem_cons_zero, List.getElem_cons_succ]; go_simp; try (with_reducible rfl))
            simp only [List.getElem_toArray, List.getElem_cons_zero, List.getElem_cons_succ, Act.put, List.setIfInBounds_toArray, List.set_cons_zero, List.set_cons_succ]
            refine wpAnyT_take (i := 6) (v := ?va6) rfl (by kernel_rfl) (by kernel_rfl) (by kernel_rfl) (by kernel_rfl) (fun _ _ _ h => h) (Or.inl ⟨by rfl, ?hya6⟩) hS0 ?ra6
            case hya6 => (intro w' hSw; (try obtain ⟨q0, q1, q2⟩ := hSw); simp only [List.getElem_toArray, List.getElem_cons_zero, List.getElem_cons_succ]; go_simp; try (with_reducible rfl))
            simp only [List.getElem_toArray, List.getElem_cons_zero, List.getElem_cons_succ, Act.put, List.setIfInBounds_toArray, List.set_cons_zero, List.set_cons_succ]
            refine wpAnyT_take (i := 7) (v := ?va7) rfl (by kernel_rfl) (by kernel_rfl) (by kernel_rfl) (by kernel_rfl) (fun _ _ _ h => h) (Or.inl ⟨by rfl, ?hya7⟩) hS0 ?ra7
            case hya7 => (intro w' hSw; (try obtain ⟨q0, q1, q2⟩ := hSw); simp only [List.getElem_toArray, List.getElem_cons_zero, List.getElem_cons_succ]; go_simp; try (with_reducible rfl))
            simp only [List.getElem_toArray, List.getElem_cons_zero, List.getElem_cons_succ, Act.put, List.setIfInBounds_toArray, List.set_cons_zero, List.set_cons_succ]
            refine wpAnyT_take (i := 8) (v := ?va8) rfl (by kernel_rfl) (by kernel_rfl) (by kernel_rfl) (by kernel_rfl) (fun _ _ _ h => h) (Or.inl ⟨by rfl, ?hya8⟩) hS0 ?ra8
            case hya8 => (intro w' hSw; (try obtain ⟨q0, q1, q2⟩ := hSw); simp only [List.getElem_toArray, List.getElem_cons_zero, List.getElem_cons_succ]; go_simp; try (with_reducible rfl))
            simp only [List.getElem_toArray, List.getElem_cons_zero, List.getElem_cons_succ, Act.put, List.setIfInBounds_toArray, List.set_cons_zero, List.set_cons_succ]
            refine wpAnyT_take (i := 9) (v := ?va9) rfl (by kernel_rfl) (by kernel_rfl) (by kernel_rfl) (by kernel_rfl) (fun _ _ _ h => h) (Or.inl ⟨by rfl, ?hya9⟩) hS0 ?ra9
            case hya9 => (intro w' hSw; (try obtain ⟨q0, q1, q2⟩ := hSw); simp only [List.getElem_toArray, List.getElem_cons_zero, List.getElem_cons_succ]; go_simp; try (with_reducible rfl))
            simp only [List.getElem_toArray, List.getElem_cons_zero, List.getElem_cons_succ, Act.put, List.setIfInBounds_toArray, List.set_cons_zero, List.set_cons_succ]
            refine wpAnyT_take (i := 10) (v := ?va10) rfl (by kernel_rfl) (by kernel_rfl) (by kernel_rfl) (by kernel_rfl) (fun _ _ _ h => h) (Or.inl ⟨by rfl, ?hya10⟩) hS0 ?ra10
            case hya10 => (intro w' hSw; (try obtain ⟨q0, q1, q2⟩ := hSw); simp only [List.getElem_toArray, List.getElem_cons_zero, List.getElem_cons_succ]; go_simp; try (with_reducible rfl))
            simp only [List.getElem_toArray, List.getElem_cons_zero, List.getElem_cons_succ, Act.put, List.setIfInBounds_toArray, List.set_cons_zero, List.set_cons_succ]
            refine wpAnyT_take (i := 11) (v := ?va11) rfl (by kernel_rfl) (by kernel_rfl) (by kernel_rfl) (by kernel_rfl) (fun _ _ _ h => h) (Or.inl ⟨by rfl, ?hya11⟩) hS0 ?ra11
            case hya11 => (intro w' hSw; (try obtain ⟨q0, q1, q2⟩ := hSw); simp only [List.getElem_toArray, List.getElem_cons_zero, List.getElem_cons_succ]; go_simp; try (with_reducible rfl))
            simp only [List.getElem_toArray, List.getElem_cons_zero, List.getElem_cons_succ, Act.put, List.setIfInBounds_toArray, List.set_cons_zero, List.set_cons_succ]
            refine wpAnyT_one (i := 12) rfl (by kernel_rfl) (by rfl) ?_
            simp only [List.getElem_toArray, List.getElem_cons_zero, List.getElem_cons_succ]
            go_simp
            refine (HC.out _ hb0.drew).mono ?_
            rintro e x3 ⟨rfl, pv3, hW3, hT3⟩
            have hT03 := (HT1.out.trans (.of_below hb0.drew)).trans hT3
            refine ⟨.inr ⟨(HFN.out.cell hT03).trans E6.out, (HFq.out.cell hT03).trans Cq5.out, (HFk.out.cell hT03).trans ckg⟩, ?_⟩
            have HW3 := hide hW3
            have HT03 := hide hT03
            have HS3 : Hid (∀ so2, so2 = some ⟨sg, so' + 1, none⟩ ∨ t.length = 0 → StayV WB pv3 x3 so2 t) := hide fun so2 e => (HS2.out so2 e).tells ((Tells.of_below hb0.drew).trans hT3)
            clear hW3 hT03 hT3 hS0 m6 mq mk hb0
            refine wpAnyT_done (by kernel_rfl) ?_ _
            go_wp2_with fail
            go_roundw
            case rel =>
              have hst2 := HSt.out
              rw [kidStep_stay (by rw [hqs]; rfl)] at hst2
              refine ⟨k + 1, by go_num, hlt, _, _, _, rfl, ?_, ?_, hide ⟨pv3, ?_, HT03.out, ?_⟩⟩
              · rw [hst2, hqs]; rfl
              · rw [hsn] at hsc; simp at hsc; omega
              · rw [hst2]; simpa [List.append_assoc] using HW3.out
              · rw [hst2, hqs]; exact HS3.out _ (by first | exact .inl rfl | (right; rw [hsn] at hsc; simp at hsc; omega))
            case measure => simp [intOf]; omega
          · have hS0 : (fun w' : World => w'.cell? ⟨N, 6, none⟩ = some (.slice (some ⟨kg, 0, none⟩) x.kids.length kc) ∧ w'.cell? ⟨qg, k, none⟩ = some (.int .i64 (yn : Int)) ∧ w'.cell? ⟨kg, yn, none⟩ = some (.pointer (some ⟨D, 0, none⟩))) x0.drew := ⟨m6, mq, mk⟩
            refine wp_region_last (S := (fun w' : World => w'.cell? ⟨N, 6, none⟩ = some (.slice (some ⟨kg, 0, none⟩) x.kids.length kc) ∧ w'.cell? ⟨qg, k, none⟩ = some (.int .i64 (yn : Int)) ∧ w'.cell? ⟨kg, yn, none⟩ = some (.pointer (some ⟨D, 0, none⟩)))) (by kernel_rfl) ?_
            refine wpAnyT_take (i := 0) (v := ?vb0) rfl (by kernel_rfl) (by kernel_rfl) (by kernel_rfl) (by kernel_rfl) (fun _ _ _ h => h) (Or.inl ⟨by rfl, ?hyb0⟩) hS0 ?rb0
            case hyb0 => (intro w' hSw; (try obtain ⟨q0, q1, q2⟩ := hSw); simp only [List.getElem_toArray, List.getElem_cons_zero]; go_simp; try (with_reducible rfl))
            simp only [List.getElem_toArray, List.getElem_cons_zero, Act.put, List.setIfInBounds_toArray, List.set_cons_zero, List.set_cons_succ]
            refine wpAnyT_take (i := 1) (v := ?vb1) rfl (by kernel_rfl) (by kernel_rfl) (by kernel_rfl) (by kernel_rfl) (fun _ _ _ h => h) (Or.inl ⟨by rfl, ?hyb1⟩) hS0 ?rb1
            case hyb1 => (intro w' hSw; (try obtain ⟨q0, q1, q2⟩ := hSw); simp only [List.getElem_toArray, List.getElem_cons_zero, List.getElem_cons_succ]; go_simp; try (with_reducible rfl))
            simp only [List.getElem_toArray, List.getElem_cons_zero, List.getElem_cons_succ, Act.put, List.setIfInBounds_toArray, List.set_cons_zero, List.set_cons_succ]
            refine wpAnyT_take (i := 2) (v := ?vb2) rfl (by kernel_rfl) (by kernel_rfl) (by kernel_rfl) (by kernel_rfl) (fun _ _ _ h => h) (Or.inl ⟨by rfl, ?hyb2⟩) hS0 ?rb2
            case hyb2 => (intro w' hSw; (try obtain ⟨q0, q1, q2⟩ := hSw); simp only [List.getElem_toArray, List.getElem_cons_zero, List.getElem_cons_succ]; go_simp; try (with_reducible rfl))
            simp only [List.getElem_toArray, List.getElem_cons_zero, List.getElem_cons_succ, Act.put, List.setIfInBounds_toArray, List.set_cons_zero, List.set_cons_succ]
            refine wpAnyT_take (i := 3) (v := ?vb3) rfl (by kernel_rfl) (by kernel_rfl) (by kernel_rfl) (by kernel_rfl) (fun _ _ _ h => h) (Or.inl ⟨by rfl, ?hyb3⟩) hS0 ?rb3
            case hyb3 => (intro w' hSw; (try obtain ⟨q0, q1, q2⟩ := hSw); simp only [List.getElem_toArray, List.getElem_cons_zero, List.getElem_cons_succ]; go_simp; try (with_reducible rfl))
            simp only [List.getElem_toArray, List.getElem_cons_zero, List.getElem_cons_succ, Act.put, List.setIfInBounds_toArray, List.set_cons_zero, List.set_cons_succ]
            refine wpAnyT_take (i := 4) (v := ?vb4) rfl (by kernel_rfl) (by kernel_rfl) (by kernel_rfl) (by kernel_rfl) (fun _ _ _ h => h) (Or.inl ⟨by rfl, ?hyb4⟩) hS0 ?rb4
            case hyb4 => (intro w' hSw; (try obtain ⟨q0, q1, q2⟩ := hSw); simp only [List.getElem_toArray, List.getElem_cons_zero, List.getElem_cons_succ]; go_simp; try (with_reducible rfl))
            simp only [List.getElem_toArray, List.getElem_cons_zero, List.getElem_cons_succ, Act.put, List.setIfInBounds_toArray, List.set_cons_zero, List.set_cons_succ]
            refine wpAnyT_take (i := 5) (v := ?vb5) rfl (by kernel_rfl) (by kernel_rfl) (by kernel_rfl) (by kernel_rfl) (fun _ _ _ h => h) (Or.inl ⟨by rfl, ?hyb5⟩) hS0 ?rb5
            case hyb5 => (intro w' hSw; (try obtain ⟨q0, q1, q2⟩ := hSw); simp only [List.getElem_toArray, List.getElem_cons_zero, List.getElem_cons_succ]; go_simp; try (with_reducible rfl))
            simp only [List.getElem_toArray, List.getElem_cons_zero, List.getElem_cons_succ, Act.put, List.setIfInBounds_toArray, List.set_cons_zero, List.set_cons_succ]
            refine wpAnyT_take (i := 6) (v := ?vb6) rfl (by kernel_rfl) (by kernel_rfl) (by kernel_rfl) (by kernel_rfl) (fun _ _ _ h => h) (Or.inl ⟨by rfl, ?hyb6⟩) hS0 ?rb6
            case hyb6 => (intro w' hSw; (try obtain ⟨q0, q1, q2⟩ := hSw); simp only [List.getElem_toArray, List.getElem_cons_zero, List.getElem_cons_succ]; go_simp; try (with_reducible rfl))
            simp only [List.getElem_toArray, List.getElem_cons_zero, List.getElem_cons_succ, Act.put, List.setIfInBounds_toArray, List.set_cons_zero, List.set_cons_succ]
            refine wpAnyT_take (i := 7) (v := ?vb7) rfl (by kernel_rfl) (by kernel_rfl) (by kernel_rfl) (by kernel_rfl) (fun _ _ _ h => h) (Or.inl ⟨by rfl, ?hyb7⟩) hS0 ?rb7
            case hyb7 => (intro w' hSw; (try obtain ⟨q0, q1, q2⟩ := hSw); simp only [List.getElem_toArray, List.getElem_cons_zero, List.getElem_cons_succ]; go_simp; try (with_reducible rfl))
            simp only [List.getElem_toArray, List.getElem_cons_zero, List.getElem_cons_succ, Act.put, List.setIfInBounds_toArray, List.set_cons_zero, List.set_cons_succ]
            refine wpAnyT_take (i := 8) (v := ?vb8) rfl (by kernel_rfl) (by kernel_rfl) (by kernel_rfl) (by kernel_rfl) (fun _ _ _ h => h) (Or.inl ⟨by rfl, ?hyb8⟩) hS0 ?rb8
            case hyb8 => (intro w' hSw; (try obtain ⟨q0, q1, q2⟩ := hSw); simp only [List.getElem_toArray, List.getElem_cons_zero, List.getElem_cons_succ]; go_simp; try (with_reducible rfl))
            simp only [List.getElem_toArray, List.getElem_cons_zero, List.getElem_cons_succ, Act.put, List.setIfInBounds_toArray, List.set_cons_zero, List.set_cons_succ]
            refine wpAnyT_take (i := 9) (v := ?vb9) rfl (by kernel_rfl) (by kernel_rfl) (by kernel_rfl) (by kernel_rfl) (fun _ _ _ h => h) (Or.inl ⟨by rfl, ?hyb9⟩) hS0 ?rb9
            case hyb9 => (intro w' hSw; (try obtain ⟨q0, q1, q2⟩ := hSw); simp only [List.getElem_toArray, List.getElem_cons_zero, List.getElem_cons_succ]; go_simp; try (with_reducible rfl))
            simp only [List.getElem_toArray, List.getElem_cons_zero, List.getElem_cons_succ, Act.put, List.setIfInBounds_toArray, List.set_cons_zero, List.set_cons_succ]
            refine wpAnyT_take (i := 10) (v := ?vb10) rfl (by kernel_rfl) (by kernel_rfl) (by kernel_rfl) (by kernel_rfl) (fun _ _ _ h => h) (Or.inl ⟨by rfl, ?hyb10⟩) hS0 ?rb10
            case hyb10 => (intro w' hSw; (try obtain ⟨q0, q1, q2⟩ := hSw); simp only [List.getElem_toArray, List.getElem_cons_zero, List.getElem_cons_succ]; go_simp; try (with_reducible rfl))
            simp only [List.getElem_toArray, List.getElem_cons_zero, List.getElem_cons_succ, Act.put, List.setIfInBounds_toArray, List.set_cons_zero, List.set_cons_succ]
            refine wpAnyT_take (i := 11) (v := ?vb11) rfl (by kernel_rfl) (by kernel_rfl) (by kernel_rfl) (by kernel_rfl) (fun _ _ _ h => h) (Or.inl ⟨by rfl, ?hyb11⟩) hS0 ?rb11
            case hyb11 => (intro w' hSw; (try obtain ⟨q0, q1, q2⟩ := hSw); simp only [List.getElem_toArray, List.getElem_cons_zero, List.getElem_cons_succ]; go_simp; try (with_reducible rfl))
            simp only [List.getElem_toArray, List.getElem_cons_zero, List.getElem_cons_succ, Act.put, List.setIfInBounds_toArray, List.set_cons_zero, List.set_cons_succ]
            refine wpAnyT_one (i := 12) rfl (by kernel_rfl) (by rfl) ?_
            simp only [List.getElem_toArray, List.getElem_cons_zero, List.getElem_cons_succ]
            go_simp
            refine (HC.out _ hb0.drew).mono ?_
            rintro e x3 ⟨rfl, pv3, hW3, hT3⟩
            have hT03 := (HT1.out.trans (.of_below hb0.drew)).trans hT3
            refine ⟨.inr ⟨(HFN.out.cell hT03).trans E6.out, (HFq.out.cell hT03).trans Cq5.out, (HFk.out.cell hT03).trans ckg⟩, ?_⟩
            have HW3 := hide hW3
            have HT03 := hide hT03
            have HS3 : Hid (∀ so2, so2 = some ⟨sg, so' + 1, none⟩ ∨ t.length = 0 → StayV WB pv3 x3 so2 t) := hide fun so2 e => (HS2.out so2 e).tells ((Tells.of_below hb0.drew).trans hT3)
            clear hW3 hT03 hT3 hS0 m6 mq mk hb0
            refine wpAnyT_done (by kernel_rfl) ?_ _
            go_wp2_with fail
            go_roundw
            case rel =>
              have hst2 := HSt.out
              rw [kidStep_stay (by rw [hqs]; rfl)] at hst2
              refine ⟨k + 1, by go_num, hlt, _, _, _, rfl, ?_, ?_, hide ⟨pv3, ?_, HT03.out, ?_⟩⟩
              · rw [hst2, hqs]; rfl
              · rw [hsn] at hsc; simp at hsc; omega
              · rw [hst2]; simpa [List.append_assoc] using HW3.out
              · rw [hst2, hqs]; exact HS3.out _ (by first | exact .inl rfl | (right; rw [hsn] at hsc; simp at hsc; omega))
            case measure => simp [intOf]; omega
        ·
          have hqn : q.stay.head? ≠ some p := by rw [hqs]; simp; exact fun e => he e.symm
          rcases hprk with hp | ⟨pn, hp, hpn⟩
          · subst hp
            have hne : ((-1 : Int) == (yn : Int)) = false := beq_eq_false_iff_ne.2 he
            have hnd := HL5.out.node a.1 (by have := HA.out; omega)
            have hsm := HS.out a.1 (by have := HA.out; omega)
            have fb := HL5.out.free
            have hs1 := hsm.tag
            have hs2 := hsm.text
            have d0 := (fb.cell HT1.out).trans hnd.c0
            have d1 := (fb.cell HT1.out).trans hnd.c1
            have d2 := (fb.cell HT1.out).trans hnd.c2
            have d3 := (fb.cell HT1.out).trans hnd.c3
            have d4 := (fb.cell HT1.out).trans hnd.c4
            have n0 := (HN5.out.free.cell HT1.out).trans HN5.out.c0
            have lb := (fb.tells HT1.out).1
            have HFb := hide fb
            have HS1 := hide hS1
            have ha12 : 0 < a.2 - a.1 := by have := HA.out; omega
            clear hnd hsm fb hS1 hb4
            have hst2 := HSt.out
            rw [kidStep_new hqn rfl] at hst2
            have HSt2 := hide hst2
            have HC2 : Hid (∀ pv' w' D, Tells WB pv2 pv' w5 w' → WayAt B w' WB pv' (P ++ q.pats ++ [⟨1, q.last + 1, 0, 0, (L (s + a.1)).k, (L (s + a.1)).t, ⟨#[]⟩, (L (s + a.1)).x⟩] ++ [⟨2, q.last + 1, id, befOf x.kids q.stay, 0, ⟨#[]⟩, ⟨#[]⟩, ⟨#[]⟩⟩]) (q.last + 1) → Free WB pv' w' D → w'.heap[D]? = some (.cells #[.int .i64 (q.last + 1), .int .i64 (L (s + a.1)).k, .string (L (s + a.1)).t, .string (L (s + a.1)).x, .slice none 0 0, .pointer none, .slice none 0 0] 79 (0, 0)) → Calls Try.prog 41 #[.pointer (some ⟨WB, 0, none⟩), .pointer (some ⟨D, 0, none⟩), .slice (some ⟨b, o + a.1 * 5, none⟩) (a.2 - a.1) (c - a.1)] w' (Told B WB pv' (P ++ q.pats ++ [⟨1, q.last + 1, 0, 0, (L (s + a.1)).k, (L (s + a.1)).t, ⟨#[]⟩, (L (s + a.1)).x⟩] ++ [⟨2, q.last + 1, id, befOf x.kids q.stay, 0, ⟨#[]⟩, ⟨#[]⟩, ⟨#[]⟩⟩]) w' (br (q.last + 1) ⟨(L (s + a.1)).k, (L (s + a.1)).t, (L (s + a.1)).x, [], []⟩ (s + a.1) (a.2 - a.1) (q.last + 1)))) := hide fun pv' w' D hT' hW' hD hd =>
              bring_made HB.out hB5 HT5.out hf hc hn2 HL5.out HS.out HA.out pv' w' _ _ hT' hW' (by have := HBb.out; simp only [List.length_append, List.length_cons, List.length_nil] at this ⊢; omega) (by have := HBb.out; omega) (by have := HBb.out; omega) D (q.last + 1) hD hd
            generalize hln : L (s + a.1) = ln at *
            generalize hbv : befOf x.kids q.stay = bv at *
            have HC1 : Hid (∀ w1, Below wr.heap.size wr w1 → Calls Try.prog 83 #[.pointer (some ⟨WB, 0, none⟩), .pointer (some ⟨N, 0, none⟩), .int .i64 (-1), .agg #[.int .i64 ln.d, .string ln.t, .int .i64 ln.k, .slice ln.ao ln.an ln.ac, .string ln.x]] w1 fun e w' => ∃ D pv', e = .returned (.pointer (some ⟨D, 0, none⟩)) ∧ w1.heap.size ≤ D ∧ Free WB pv' w' D ∧ w'.heap[D]? = some (.cells #[.int .i64 (q.last + 1), .int .i64 ln.k, .string ln.t, .string ln.x, .slice none 0 0, .pointer none, .slice none 0 0] 79 (0, 0)) ∧ WayAt B w' WB pv' (P ++ q.pats ++ [⟨1, q.last + 1, 0, 0, ln.k, ln.t, ⟨#[]⟩, ln.x⟩]) (q.last + 1) ∧ Tells WB pv1 pv' w1 w') := hide fun w1 hb =>
              kid_new B WB pv1 (P ++ q.pats) q.last w1 (HW1.out.below hb) (Nat.le_trans hB5 (Nat.le_trans HT1.out.touch.size hb.size)) (by have := HBb.out; omega) HBb.out.2.1 (by have := HBb.out; omega) N ln.d ln.k ln.t ln.x _ hs1 hs2
            clear hst2 HSt
            obtain ⟨kg2, hko, fkg2, ckg2⟩ := H65.out yn hyn
            subst hko
            have ck2 := (fkg2.cell HT1.out).trans ckg2
            have hmem2 : S (x.kids.getD yn 0) := HXk.out _ (by rw [List.getD_eq_getElem?_getD, List.getElem?_eq_getElem hyn]; exact List.getElem_mem _)
            have hnV2 := HT5.out.node _ hmem2
            have ci2 := (hnV2.free.cell HT1.out).trans hnV2.c0
            have hbv2 : x.kids.getD yn 0 = bv := by rw [← hbv, hqs]; rfl
            rw [hbv2] at ck2 ci2
            generalize nb bv = D2 at *
            clear hnV2 hmem2 fkg2 ckg2
            clear hbv
            have hlnC := HSt2
            clear hlnC
            go_wp2_with fail
            go_big_quiet (fail)
            generalize nq = nqa
            go_wp2_with fail
            go_big_quiet (fail)
            have hb0 : Below wr.heap.size wr ((wr.drewN nqa).drewN nq) := drewN_of (drewN_of (.refl _ _) nqa) nq
            have mq : ((wr.drewN nqa).drewN nq).cell? ⟨qg, k, none⟩ = some (.int .i64 (-1)) := cq
            have m0 : ((wr.drewN nqa).drewN nq).cell? ⟨b, o + a.1 * 5, none⟩ = some (.int .i64 ln.d) := d0
            have m1 : ((wr.drewN nqa).drewN nq).cell? ⟨b, o + a.1 * 5 + 1, none⟩ = some (.string ln.t) := d1
            have m2 : ((wr.drewN nqa).drewN nq).cell? ⟨b, o + a.1 * 5 + 2, none⟩ = some (.int .i64 ln.k) := d2
            have m3 : ((wr.drewN nqa).drewN nq).cell? ⟨b, o + a.1 * 5 + 3, none⟩ = some (.slice ln.ao ln.an ln.ac) := d3
            have m4 : ((wr.drewN nqa).drewN nq).cell? ⟨b, o + a.1 * 5 + 4, none⟩ = some (.string ln.x) := d4
            generalize (wr.drewN nqa).drewN nq = x0 at hb0 mq m0 m1 m2 m3 m4 ⊢
            go_wp2_with fail
            have hS0 : (fun w' : World => w'.cell? ⟨qg, k, none⟩ = some (.int .i64 (-1)) ∧ w'.cell? ⟨b, o + a.1 * 5, none⟩ = some (.int .i64 ln.d) ∧ w'.cell? ⟨b, o + a.1 * 5 + 1, none⟩ = some (.string ln.t) ∧ w'.cell? ⟨b, o + a.1 * 5 + 2, none⟩ = some (.int .i64 ln.k) ∧ w'.cell? ⟨b, o + a.1 * 5 + 3, none⟩ = some (.slice ln.ao ln.an ln.ac) ∧ w'.cell? ⟨b, o + a.1 * 5 + 4, none⟩ = some (.string ln.x)) x0.drew := ⟨mq, m0, m1, m2, m3, m4⟩
            refine wp_region_last (S := (fun w' : World => w'.cell? ⟨qg, k, none⟩ = some (.int .i64 (-1)) ∧ w'.cell? ⟨b, o + a.1 * 5, none⟩ = some (.int .i64 ln.d) ∧ w'.cell? ⟨b, o + a.1 * 5 + 1, none⟩ = some (.string ln.t) ∧ w'.cell? ⟨b, o + a.1 * 5 + 2, none⟩ = some (.int .i64 ln.k) ∧ w'.cell? ⟨b, o + a.1 * 5 + 3, none⟩ = some (.slice ln.ao ln.an ln.ac) ∧ w'.cell? ⟨b, o + a.1 * 5 + 4, none⟩ = some (.string ln.x))) (by kernel_rfl) ?_
            refine wpAnyT_take (i := 0) (v := ?vg0) rfl (by kernel_rfl) (by kernel_rfl) (by kernel_rfl) (by kernel_rfl) (fun _ _ _ h => h) (Or.inl ⟨by rfl, ?hyg0⟩) hS0 ?rg0
            case hyg0 => (intro w' hSw; (try obtain ⟨q0, q1, q2, q3, q4, q5⟩ := hSw); simp only [List.getElem_toArray, List.getElem_cons_zero]; go_simp; try (with_reducible rfl))
            simp only [List.getElem_toArray, List.getElem_cons_zero, Act.put, List.setIfInBounds_toArray, List.set_cons_zero, List.set_cons_succ]
            refine wpAnyT_take (i := 1) (v := ?vg1) rfl (by kernel_rfl) (by kernel_rfl) (by kernel_rfl) (by kernel_rfl) (fun _ _ _ h => h) (Or.inl ⟨by rfl, ?hyg1⟩) hS0 ?rg1
            case hyg1 => (intro w' hSw; (try obtain ⟨q0, q1, q2, q3, q4, q5⟩ := hSw); simp only [List.getElem_toArray, List.getElem_cons_zero, List.getElem_cons_succ]; go_simp; try (with_reducible rfl))
            simp only [List.getElem_toArray, List.getElem_cons_zero, List.getElem_cons_succ, Act.put, List.setIfInBounds_toArray, List.set_cons_zero, List.set_cons_succ]
            refine wpAnyT_take (i := 2) (v := ?vg2) rfl (by kernel_rfl) (by kernel_rfl) (by kernel_rfl) (by kernel_rfl) (fun _ _ _ h => h) (Or.inl ⟨by rfl, ?hyg2⟩) hS0 ?rg2
            case hyg2 => (intro w' hSw; (try obtain ⟨q0, q1, q2, q3, q4, q5⟩ := hSw); simp only [List.getElem_toArray, List.getElem_cons_zero, List.getElem_cons_succ]; go_simp; try (with_reducible rfl))
            simp only [List.getElem_toArray, List.getElem_cons_zero, List.getElem_cons_succ, Act.put, List.setIfInBounds_toArray, List.set_cons_zero, List.set_cons_succ]
            refine wpAnyT_take (i := 3) (v := ?vg3) rfl (by kernel_rfl) (by kernel_rfl) (by kernel_rfl) (by kernel_rfl) (fun _ _ _ h => h) (Or.inl ⟨by rfl, ?hyg3⟩) hS0 ?rg3
            case hyg3 => (intro w' hSw; (try obtain ⟨q0, q1, q2, q3, q4, q5⟩ := hSw); simp only [List.getElem_toArray, List.getElem_cons_zero, List.getElem_cons_succ]; go_simp; try (with_reducible rfl))
            simp only [List.getElem_toArray, List.getElem_cons_zero, List.getElem_cons_succ, Act.put, List.setIfInBounds_toArray, List.set_cons_zero, List.set_cons_succ]
            refine wpAnyT_take (i := 4) (v := ?vg4) rfl (by kernel_rfl) (by kernel_rfl) (by kernel_rfl) (by kernel_rfl) (fun _ _ _ h => h) (Or.inl ⟨by rfl, ?hyg4⟩) hS0 ?rg4
            case hyg4 => (intro w' hSw; (try obtain ⟨q0, q1, q2, q3, q4, q5⟩ := hSw); simp only [List.getElem_toArray, List.getElem_cons_zero, List.getElem_cons_succ]; go_simp; try (with_reducible rfl))
            simp only [List.getElem_toArray, List.getElem_cons_zero, List.getElem_cons_succ, Act.put, List.setIfInBounds_toArray, List.set_cons_zero, List.set_cons_succ]
            refine wpAnyT_take (i := 5) (v := ?vg5) rfl (by kernel_rfl) (by kernel_rfl) (by kernel_rfl) (by kernel_rfl) (fun _ _ _ h => h) (Or.inl ⟨by rfl, ?hyg5⟩) hS0 ?rg5
            case hyg5 => (intro w' hSw; (try obtain ⟨q0, q1, q2, q3, q4, q5⟩ := hSw); simp only [List.getElem_toArray, List.getElem_cons_zero, List.getElem_cons_succ]; go_simp; try (with_reducible rfl))
            simp only [List.getElem_toArray, List.getElem_cons_zero, List.getElem_cons_succ, Act.put, List.setIfInBounds_toArray, List.set_cons_zero, List.set_cons_succ]
            refine wpAnyT_take (i := 6) (v := ?vg6) rfl (by kernel_rfl) (by kernel_rfl) (by kernel_rfl) (by kernel_rfl) (fun _ _ _ h => h) (Or.inl ⟨by rfl, ?hyg6⟩) hS0 ?rg6
            case hyg6 => (intro w' hSw; (try obtain ⟨q0, q1, q2, q3, q4, q5⟩ := hSw); simp only [List.getElem_toArray, List.getElem_cons_zero, List.getElem_cons_succ]; go_simp; try (with_reducible rfl))
            simp only [List.getElem_toArray, List.getElem_cons_zero, List.getElem_cons_succ, Act.put, List.setIfInBounds_toArray, List.set_cons_zero, List.set_cons_succ]
            refine wpAnyT_take (i := 7) (v := ?vg7) rfl (by kernel_rfl) (by kernel_rfl) (by kernel_rfl) (by kernel_rfl) (fun _ _ _ h => h) (Or.inl ⟨by rfl, ?hyg7⟩) hS0 ?rg7
            case hyg7 => (intro w' hSw; (try obtain ⟨q0, q1, q2, q3, q4, q5⟩ := hSw); simp only [List.getElem_toArray, List.getElem_cons_zero, List.getElem_cons_succ]; go_simp; try (with_reducible rfl))
            simp only [List.getElem_toArray, List.getElem_cons_zero, List.getElem_cons_succ, Act.put, List.setIfInBounds_toArray, List.set_cons_zero, List.set_cons_succ]
            refine wpAnyT_take (i := 8) (v := ?vg8) rfl (by kernel_rfl) (by kernel_rfl) (by kernel_rfl) (by kernel_rfl) (fun _ _ _ h => h) (Or.inl ⟨by rfl, ?hyg8⟩) hS0 ?rg8
            case hyg8 => (intro w' hSw; (try obtain ⟨q0, q1, q2, q3, q4, q5⟩ := hSw); simp only [List.getElem_toArray, List.getElem_cons_zero, List.getElem_cons_succ]; go_simp; try (with_reducible rfl))
            simp only [List.getElem_toArray, List.getElem_cons_zero, List.getElem_cons_succ, Act.put, List.setIfInBounds_toArray, List.set_cons_zero, List.set_cons_succ]
            refine wpAnyT_one (i := 9) rfl (by kernel_rfl) (by rfl) ?_
            simp only [List.getElem_toArray, List.getElem_cons_zero, List.getElem_cons_succ]
            go_simp
            refine (HC1.out _ hb0.drew).mono ?_
            rintro e x3 ⟨D, pvk, rfl, hDD, hFD, hbD, hWk, hTk0⟩
            have hTk := (HT1.out.trans (.of_below hb0.drew)).trans hTk0
            have hS0 : (fun w' : World => w'.cell? ⟨qg, k, none⟩ = some (.int .i64 (-1)) ∧ w'.cell? ⟨b, o + a.1 * 5, none⟩ = some (.int .i64 ln.d) ∧ w'.cell? ⟨b, o + a.1 * 5 + 1, none⟩ = some (.string ln.t) ∧ w'.cell? ⟨b, o + a.1 * 5 + 2, none⟩ = some (.int .i64 ln.k) ∧ w'.cell? ⟨b, o + a.1 * 5 + 3, none⟩ = some (.slice ln.ao ln.an ln.ac) ∧ w'.cell? ⟨b, o + a.1 * 5 + 4, none⟩ = some (.string ln.x)) x3 := ⟨(HFq.out.cell hTk).trans Cq5.out, (HFb.out.cell hTk).trans ((HFb.out.cell HT1.out).symm.trans d0), (HFb.out.cell hTk).trans ((HFb.out.cell HT1.out).symm.trans d1), (HFb.out.cell hTk).trans ((HFb.out.cell HT1.out).symm.trans d2), (HFb.out.cell hTk).trans ((HFb.out.cell HT1.out).symm.trans d3), (HFb.out.cell hTk).trans ((HFb.out.cell HT1.out).symm.trans d4)⟩
            refine ⟨.inr hS0, ?_⟩
            refine wpAnyT_take (i := 10) (v := ?vg10) rfl (by kernel_rfl) (by kernel_rfl) (by kernel_rfl) (by kernel_rfl) (fun _ _ _ h => h) (Or.inl ⟨by rfl, ?hyg10⟩) hS0 ?rg10
            case hyg10 => (intro w' hSw; (try obtain ⟨q0, q1, q2, q3, q4, q5⟩ := hSw); simp only [List.getElem_toArray, List.getElem_cons_zero, List.getElem_cons_succ]; go_simp; try (with_reducible rfl))
            simp only [List.getElem_toArray, List.getElem_cons_zero, List.getElem_cons_succ, Act.put, List.setIfInBounds_toArray, List.set_cons_zero, List.set_cons_succ]
            refine wpAnyT_done (by kernel_rfl) ?_ _
            have mD : x3.cell? ⟨D, 0, none⟩ = some (.int .i64 (q.last + 1)) := cell_of_blk hbD 0 _ rfl
            generalize hii : q.last + 1 = i at *
            have HFD := hide hFD
            have HBD := hide hbD
            have HWk := hide hWk
            clear hFD hbD hDD hWk
            have mN : x3.cell? ⟨N, 0, none⟩ = some (.int .i64 id) := (HFN.out.cell hTk).trans HN5.out.c0
            have HFN3 := hide (HFN.out.tells hTk)
            have HTk := hide hTk
            have HSk := hide (HS1.out.tells ((Tells.of_below hb0.drew).trans hTk0))
            have hBk : B ≤ x3.heap.size := Nat.le_trans hB5 hTk.touch.size
            clear hTk hTk0 hS0 mq m0 m1 m2 m3 m4 hb0
            go_wp2_with fail
            have hS0 : (fun w' : World => w'.cell? ⟨D, 0, none⟩ = some (.int .i64 i) ∧ w'.cell? ⟨N, 0, none⟩ = some (.int .i64 id)) x3.drew := ⟨mD, mN⟩
            refine wp_region_last (S := (fun w' : World => w'.cell? ⟨D, 0, none⟩ = some (.int .i64 i) ∧ w'.cell? ⟨N, 0, none⟩ = some (.int .i64 id))) (by kernel_rfl) ?_
            refine wpAnyT_take (i := 0) (v := ?vgt0) rfl (by kernel_rfl) (by kernel_rfl) (by kernel_rfl) (by kernel_rfl) (fun _ _ _ h => h) (Or.inl ⟨by rfl, ?hygt0⟩) hS0 ?rgt0
            case hygt0 => (intro w' hSw; (try obtain ⟨q0, q1⟩ := hSw); simp only [List.getElem_toArray, List.getElem_cons_zero]; go_simp; try (with_reducible rfl))
            simp only [List.getElem_toArray, List.getElem_cons_zero, Act.put, List.setIfInBounds_toArray, List.set_cons_zero, List.set_cons_succ]
            refine wpAnyT_take (i := 1) (v := ?vgt1) rfl (by kernel_rfl) (by kernel_rfl) (by kernel_rfl) (by kernel_rfl) (fun _ _ _ h => h) (Or.inl ⟨by rfl, ?hygt1⟩) hS0 ?rgt1
            case hygt1 => (intro w' hSw; (try obtain ⟨q0, q1⟩ := hSw); simp only [List.getElem_toArray, List.getElem_cons_zero, List.getElem_cons_succ]; go_simp; try (with_reducible rfl))
            simp only [List.getElem_toArray, List.getElem_cons_zero, List.getElem_cons_succ, Act.put, List.setIfInBounds_toArray, List.set_cons_zero, List.set_cons_succ]
            refine wpAnyT_take (i := 2) (v := ?vgt2) rfl (by kernel_rfl) (by kernel_rfl) (by kernel_rfl) (by kernel_rfl) (fun _ _ _ h => h) (Or.inl ⟨by rfl, ?hygt2⟩) hS0 ?rgt2
            case hygt2 => (intro w' hSw; (try obtain ⟨q0, q1⟩ := hSw); simp only [List.getElem_toArray, List.getElem_cons_zero, List.getElem_cons_succ]; go_simp; try (with_reducible rfl))
            simp only [List.getElem_toArray, List.getElem_cons_zero, List.getElem_cons_succ, Act.put, List.setIfInBounds_toArray, List.set_cons_zero, List.set_cons_succ]
            refine wpAnyT_take (i := 3) (v := ?vgt3) rfl (by kernel_rfl) (by kernel_rfl) (by kernel_rfl) (by kernel_rfl) (fun _ _ _ h => h) (Or.inl ⟨by rfl, ?hygt3⟩) hS0 ?rgt3
            case hygt3 => (intro w' hSw; (try obtain ⟨q0, q1⟩ := hSw); simp only [List.getElem_toArray, List.getElem_cons_zero, List.getElem_cons_succ]; go_simp; try (with_reducible rfl))
            simp only [List.getElem_toArray, List.getElem_cons_zero, List.getElem_cons_succ, Act.put, List.setIfInBounds_toArray, List.set_cons_zero, List.set_cons_succ]
            refine wpAnyT_take (i := 4) (v := ?vgt4) rfl (by kernel_rfl) (by kernel_rfl) (by kernel_rfl) (by kernel_rfl) (fun _ _ _ h => h) (Or.inl ⟨by rfl, ?hygt4⟩) hS0 ?rgt4
            case hygt4 => (intro w' hSw; (try obtain ⟨q0, q1⟩ := hSw); simp only [List.getElem_toArray, List.getElem_cons_zero, List.getElem_cons_succ]; go_simp; try (with_reducible rfl))
            simp only [List.getElem_toArray, List.getElem_cons_zero, List.getElem_cons_succ, Act.put, List.setIfInBounds_toArray, List.set_cons_zero, List.set_cons_succ]
            refine wpAnyT_take (i := 5) (v := ?vgt5) rfl (by kernel_rfl) (by kernel_rfl) (by kernel_rfl) (by kernel_rfl) (fun _ _ _ h => h) (Or.inl ⟨by rfl, ?hygt5⟩) hS0 ?rgt5
            case hygt5 => (intro w' hSw; (try obtain ⟨q0, q1⟩ := hSw); simp only [List.getElem_toArray, List.getElem_cons_zero, List.getElem_cons_succ]; go_simp; try (with_reducible rfl))
            simp only [List.getElem_toArray, List.getElem_cons_zero, List.getElem_cons_succ, Act.put, List.setIfInBounds_toArray, List.set_cons_zero, List.set_cons_succ]
            refine wpAnyT_take (i := 6) (v := ?vgt6) rfl (by kernel_rfl) (by kernel_rfl) (by kernel_rfl) (by kernel_rfl) (fun _ _ _ h => h) (Or.inl ⟨by rfl, ?hygt6⟩) hS0 ?rgt6
            case hygt6 => (intro w' hSw; (try obtain ⟨q0, q1⟩ := hSw); simp only [List.getElem_toArray, List.getElem_cons_zero, List.getElem_cons_succ]; go_simp; try (with_reducible rfl))
            simp only [List.getElem_toArray, List.getElem_cons_zero, List.getElem_cons_succ, Act.put, List.setIfInBounds_toArray, List.set_cons_zero, List.set_cons_succ]
            refine wpAnyT_take (i := 7) (v := ?vgt7) rfl (by kernel_rfl) (by kernel_rfl) (by kernel_rfl) (by kernel_rfl) (fun _ _ _ h => h) (Or.inl ⟨by rfl, ?hygt7⟩) hS0 ?rgt7
            case hygt7 => (intro w' hSw; (try obtain ⟨q0, q1⟩ := hSw); simp only [List.getElem_toArray, List.getElem_cons_zero, List.getElem_cons_succ]; go_simp; try (with_reducible rfl))
            simp only [List.getElem_toArray, List.getElem_cons_zero, List.getElem_cons_succ, Act.put, List.setIfInBounds_toArray, List.set_cons_zero, List.set_cons_succ]
            refine wpAnyT_take (i := 8) (v := ?vgt8) rfl (by kernel_rfl) (by kernel_rfl) (by kernel_rfl) (by kernel_rfl) (fun _ _ _ h => h) (Or.inl ⟨by rfl, ?hygt8⟩) hS0 ?rgt8
            case hygt8 => (intro w' hSw; (try obtain ⟨q0, q1⟩ := hSw); simp only [List.getElem_toArray, List.getElem_cons_zero, List.getElem_cons_succ]; go_simp; try (with_reducible rfl))
            simp only [List.getElem_toArray, List.getElem_cons_zero, List.getElem_cons_succ, Act.put, List.setIfInBounds_toArray, List.set_cons_zero, List.set_cons_succ]
            refine wpAnyT_take (i := 9) (v := ?vgt9) rfl (by kernel_rfl) (by kernel_rfl) (by kernel_rfl) (by kernel_rfl) (fun _ _ _ h => h) (Or.inl ⟨by rfl, ?hygt9⟩) hS0 ?rgt9
            case hygt9 => (intro w' hSw; (try obtain ⟨q0, q1⟩ := hSw); simp only [List.getElem_toArray, List.getElem_cons_zero, List.getElem_cons_succ]; go_simp; try (with_reducible rfl))
            simp only [List.getElem_toArray, List.getElem_cons_zero, List.getElem_cons_succ, Act.put, List.setIfInBounds_toArray, List.set_cons_zero, List.set_cons_succ]
            refine wpAnyT_take (i := 10) (v := ?vgt10) rfl (by kernel_rfl) (by kernel_rfl) (by kernel_rfl) (by kernel_rfl) (fun _ _ _ h => h) (Or.inl ⟨by rfl, ?hygt10⟩) hS0 ?rgt10
            case hygt10 => (intro w' hSw; (try obtain ⟨q0, q1⟩ := hSw); simp only [List.getElem_toArray, List.getElem_cons_zero, List.getElem_cons_succ]; go_simp; try (with_reducible rfl))
            simp only [List.getElem_toArray, List.getElem_cons_zero, List.getElem_cons_succ, Act.put, List.setIfInBounds_toArray, List.set_cons_zero, List.set_cons_succ]
            refine wpAnyT_one (i := 11) rfl (by kernel_rfl) (by rfl) ?_
            simp only [List.getElem_toArray, List.getElem_cons_zero, List.getElem_cons_succ]
            go_simp
            refine ⟨.inr ?_, ?_⟩
            · exact ⟨((((Below.refl x3.heap.size x3).alloc (Nat.le_refl _) _).cell (p := ⟨D, 0, none⟩) (World.block_lt_of_cell? _ _ mD))).trans mD, ((((Below.refl x3.heap.size x3).alloc (Nat.le_refl _) _).cell (p := ⟨N, 0, none⟩) (World.block_lt_of_cell? _ _ mN))).trans mN⟩
            clear hS0
            refine wpAnyT_one (i := 12) rfl (by kernel_rfl) (by rfl) ?_
            simp only [List.getElem_toArray, List.getElem_cons_zero, List.getElem_cons_succ]
            go_simp
            refine (tell_new B WB pvk (P ++ q.pats ++ [⟨1, i, 0, 0, ln.k, ln.t, ⟨#[]⟩, ln.x⟩]) i x3 HWk.out hBk (by have := HBb.out; simp only [List.length_append, List.length_cons, List.length_nil] at this ⊢; omega) 2 i id bv 0 ⟨#[]⟩ ⟨#[]⟩ ⟨#[]⟩ (by decide) (by decide) (by decide)).mono ?_
            rintro e x4 ⟨rfl, pv4, hW4, hT4⟩
            refine ⟨.inr ⟨(HFD.out.cell hT4).trans mD, (HFN3.out.cell hT4).trans mN⟩, ?_⟩
            have HW4 := hide hW4
            have HT4' := hide hT4
            have HT4 := hide (HTk.out.trans hT4)
            have HS4 := hide (HSk.out.tells hT4)
            have HCb := hide (HC2.out pv4 x4 D (HTk.out.trans hT4) hW4 (HFD.out.tells hT4) ((HFD.out.block hT4).trans HBD.out))
            clear hW4 hT4 mD mN
            refine wpAnyT_done (by kernel_rfl) ?_ _
            go_wp2_with (first | (go_at_call 41; refine (unhide HCb).mono ?_; rintro e x5 ⟨rfl, pv5, hW5', hT5'⟩; have HW5' := hide hW5'; have HT5' := hide (HT4.out.trans hT5'); have HS5' := hide (HS4.out.tells hT5'); clear hW5' hT5'))
            go_roundw
            case rel =>
              have hst3 := HSt2.out
              refine ⟨k + 1, by go_num, hlt, _, _, _, rfl, ?_, ?_, hide ⟨pv5, ?_, HT5'.out, ?_⟩⟩
              · rw [hst3]; simp [hqs]
              · rw [hsn] at hsc; exact hsc
              · rw [hst3]; simpa [List.append_assoc] using HW5'.out
              · rw [hst3]; simpa [hqs] using HS5'.out
            case measure => simp [intOf]; omega
          · subst hp
            have hne : ((pn : Int) == (yn : Int)) = false := beq_eq_false_iff_ne.2 he
            have hnd := HL5.out.node a.1 (by have := HA.out; omega)
            have hsm := HS.out a.1 (by have := HA.out; omega)
            have fb := HL5.out.free
            have hs1 := hsm.tag
            have hs2 := hsm.text
            have d0 := (fb.cell HT1.out).trans hnd.c0
            have d1 := (fb.cell HT1.out).trans hnd.c1
            have d2 := (fb.cell HT1.out).trans hnd.c2
            have d3 := (fb.cell HT1.out).trans hnd.c3
            have d4 := (fb.cell HT1.out).trans hnd.c4
            have n0 := (HN5.out.free.cell HT1.out).trans HN5.out.c0
            have lb := (fb.tells HT1.out).1
            have HFb := hide fb
            have HS1 := hide hS1
            have ha12 : 0 < a.2 - a.1 := by have := HA.out; omega
            clear hnd hsm fb hS1 hb4
            obtain ⟨kg, rfl, fkg, ckg⟩ := H65.out pn hpn
            have ck : wr.cell? ⟨kg, pn, none⟩ = some (.pointer (some ⟨nb (x.kids.getD pn 0), 0, none⟩)) := (fkg.cell HT1.out).trans ckg
            have hmem : S (x.kids.getD pn 0) := HXk.out _ (by rw [List.getD_eq_getElem?_getD, List.getElem?_eq_getElem hpn]; exact List.getElem_mem _)
            have hnV := HT5.out.node _ hmem
            have HC2 : Hid (∀ pv' w', Tells WB pv2 pv' w5 w' → WayAt B w' WB pv' (P ++ q.pats ++ [⟨2, x.kids.getD pn 0, id, befOf x.kids q.stay, 0, ⟨#[]⟩, ⟨#[]⟩, ⟨#[]⟩⟩]) q.last → Calls Try.prog 41 #[.pointer (some ⟨WB, 0, none⟩), .pointer (some ⟨nb (x.kids.getD pn 0), 0, none⟩), .slice (some ⟨b, o + a.1 * 5, none⟩) (a.2 - a.1) (c - a.1)] w' (Told B WB pv' (P ++ q.pats ++ [⟨2, x.kids.getD pn 0, id, befOf x.kids q.stay, 0, ⟨#[]⟩, ⟨#[]⟩, ⟨#[]⟩⟩]) w' (br (x.kids.getD pn 0) (T (x.kids.getD pn 0)) (s + a.1) (a.2 - a.1) q.last))) := hide fun pv' w' hT' hW' =>
              bring_kid HB.out hB5 HT5.out hf hc hn2 HL5.out HS.out HA.out hmem pv' w' _ _ hT' hW' (by have := HBb.out; simp only [List.length_append, List.length_cons, List.length_nil] at this ⊢; omega) HBb.out.2.1 (by have := HBb.out; omega)
            have hst2 := HSt.out
            rw [kidStep_move hqn (by omega)] at hst2
            have HSt2 := hide hst2
            have HDf := hide hnV.free
            have HD0 := hide hnV.c0
            have HFk := hide fkg
            have HCk := hide ckg
            generalize hln : L (s + a.1) = ln at *
            rw [Int.toNat_natCast] at HSt2
            generalize T (x.kids.getD pn 0) = xi at *
            generalize hDD : nb (x.kids.getD pn 0) = D at *
            generalize x.kids.getD pn 0 = i at *
            generalize hbv : befOf x.kids q.stay = bv at *
            have HC1 : Hid (∀ w1, Below wr.heap.size wr w1 → Calls Try.prog 83 #[.pointer (some ⟨WB, 0, none⟩), .pointer (some ⟨N, 0, none⟩), .int .i64 (pn : Int), .agg #[.int .i64 ln.d, .string ln.t, .int .i64 ln.k, .slice ln.ao ln.an ln.ac, .string ln.x]] w1 fun e w' => e = .returned (.pointer (some ⟨D, 0, none⟩)) ∧ Below w1.heap.size w1 w') := hide fun w1 hb =>
              kid_old WB N x.kids.length kc pn kg D hpn ln.d ln.k ln.t ln.x _ w1 ((hb.cell (p := ⟨N, 6, none⟩) lN).trans c6) ((hb.cell (p := ⟨kg, pn, none⟩) (HFk.out.tells HT1.out).1).trans ck)
            clear hnV fkg ckg hst2 HSt
            obtain ⟨kg2, hko, fkg2, ckg2⟩ := H65.out yn hyn
            cases hko
            have ck2 := (fkg2.cell HT1.out).trans ckg2
            have hmem2 : S (x.kids.getD yn 0) := HXk.out _ (by rw [List.getD_eq_getElem?_getD, List.getElem?_eq_getElem hyn]; exact List.getElem_mem _)
            have hnV2 := HT5.out.node _ hmem2
            have ci2 := (hnV2.free.cell HT1.out).trans hnV2.c0
            have hbv2 : x.kids.getD yn 0 = bv := by rw [← hbv, hqs]; rfl
            rw [hbv2] at ck2 ci2
            generalize nb bv = D2 at *
            clear hnV2 hmem2 fkg2 ckg2
            clear hbv
            have hlnC := HSt2
            clear hlnC
            go_wp2_with fail
            go_big_quiet (fail)
            generalize nq = nqa
            go_wp2_with fail
            go_big_quiet (fail)
            have hb0 : Below wr.heap.size wr ((wr.drewN nqa).drewN nq) := drewN_of (drewN_of (.refl _ _) nqa) nq
            have mq : ((wr.drewN nqa).drewN nq).cell? ⟨qg, k, none⟩ = some (.int .i64 (pn : Int)) := cq
            have m0 : ((wr.drewN nqa).drewN nq).cell? ⟨b, o + a.1 * 5, none⟩ = some (.int .i64 ln.d) := d0
            have m1 : ((wr.drewN nqa).drewN nq).cell? ⟨b, o + a.1 * 5 + 1, none⟩ = some (.string ln.t) := d1
            have m2 : ((wr.drewN nqa).drewN nq).cell? ⟨b, o + a.1 * 5 + 2, none⟩ = some (.int .i64 ln.k) := d2
            have m3 : ((wr.drewN nqa).drewN nq).cell? ⟨b, o + a.1 * 5 + 3, none⟩ = some (.slice ln.ao ln.an ln.ac) := d3
            have m4 : ((wr.drewN nqa).drewN nq).cell? ⟨b, o + a.1 * 5 + 4, none⟩ = some (.string ln.x) := d4
            generalize (wr.drewN nqa).drewN nq = x0 at hb0 mq m0 m1 m2 m3 m4 ⊢
            go_wp2_with fail
            have hS0 : (fun w' : World => w'.cell? ⟨qg, k, none⟩ = some (.int .i64 (pn : Int)) ∧ w'.cell? ⟨b, o + a.1 * 5, none⟩ = some (.int .i64 ln.d) ∧ w'.cell? ⟨b, o + a.1 * 5 + 1, none⟩ = some (.string ln.t) ∧ w'.cell? ⟨b, o + a.1 * 5 + 2, none⟩ = some (.int .i64 ln.k) ∧ w'.cell? ⟨b, o + a.1 * 5 + 3, none⟩ = some (.slice ln.ao ln.an ln.ac) ∧ w'.cell? ⟨b, o + a.1 * 5 + 4, none⟩ = some (.string ln.x)) x0.drew := ⟨mq, m0, m1, m2, m3, m4⟩
            refine wp_region_last (S := (fun w' : World => w'.cell? ⟨qg, k, none⟩ = some (.int .i64 (pn : Int)) ∧ w'.cell? ⟨b, o + a.1 * 5, none⟩ = some (.int .i64 ln.d) ∧ w'.cell? ⟨b, o + a.1 * 5 + 1, none⟩ = some (.string ln.t) ∧ w'.cell? ⟨b, o + a.1 * 5 + 2, none⟩ = some (.int .i64 ln.k) ∧ w'.cell? ⟨b, o + a.1 * 5 + 3, none⟩ = some (.slice ln.ao ln.an ln.ac) ∧ w'.cell? ⟨b, o + a.1 * 5 + 4, none⟩ = some (.string ln.x))) (by kernel_rfl) ?_
            refine wpAnyT_take (i := 0) (v := ?vh0) rfl (by kernel_rfl) (by kernel_rfl) (by kernel_rfl) (by kernel_rfl) (fun _ _ _ h => h) (Or.inl ⟨by rfl, ?hyh0⟩) hS0 ?rh0
            case hyh0 => (intro w' hSw; (try obtain ⟨q0, q1, q2, q3, q4, q5⟩ := hSw); simp only [List.getElem_toArray, List.getElem_cons_zero]; go_simp; try (with_reducible rfl))
            simp only [List.getElem_toArray, List.getElem_cons_zero, Act.put, List.setIfInBounds_toArray, List.set_cons_zero, List.set_cons_succ]
            refine wpAnyT_take (i := 1) (v := ?vh1) rfl (by kernel_rfl) (by kernel_rfl) (by kernel_rfl) (by kernel_rfl) (fun _ _ _ h => h) (Or.inl ⟨by rfl, ?hyh1⟩) hS0 ?rh1
            case hyh1 => (intro w' hSw; (try obtain ⟨q0, q1, q2, q3, q4, q5⟩ := hSw); simp only [List.getElem_toArray, List.getElem_cons_zero, List.getElem_cons_succ]; go_simp; try (with_reducible rfl))
            simp only [List.getElem_toArray, List.getElem_cons_zero, List.getElem_cons_succ, Act.put, List.setIfInBounds_toArray, List.set_cons_zero, List.set_cons_succ]
            refine wpAnyT_take (i := 2) (v := ?vh2) rfl (by kernel_rfl) (by kernel_rfl) (by kernel_rfl) (by kernel_rfl) (fun _ _ _ h => h) (Or.inl ⟨by rfl, ?hyh2⟩) hS0 ?rh2
            case hyh2 => (intro w' hSw; (try obtain ⟨q0, q1, q2, q3, q4, q5⟩ := hSw); simp only [List.getElem_toArray, List.getElem_cons_zero, List.getElem_cons_succ]; go_simp; try (with_reducible rfl))
            simp only [List.getElem_toArray, List.getElem_cons_zero, List.getElem_cons_succ, Act.put, List.setIfInBounds_toArray, List.set_cons_zero, List.set_cons_succ]
            refine wpAnyT_take (i := 3) (v := ?vh3) rfl (by kernel_rfl) (by kernel_rfl) (by kernel_rfl) (by kernel_rfl) (fun _ _ _ h => h) (Or.inl ⟨by rfl, ?hyh3⟩) hS0 ?rh3
            case hyh3 => (intro w' hSw; (try obtain ⟨q0, q1, q2, q3, q4, q5⟩ := hSw); simp only [List.getElem_toArray, List.getElem_cons_zero, List.getElem_cons_succ]; go_simp; try (with_reducible rfl))
            simp only [List.getElem_toArray, List.getElem_cons_zero, List.getElem_cons_succ, Act.put, List.setIfInBounds_toArray, List.set_cons_zero, List.set_cons_succ]
            refine wpAnyT_take (i := 4) (v := ?vh4) rfl (by kernel_rfl) (by kernel_rfl) (by kernel_rfl) (by kernel_rfl) (fun _ _ _ h => h) (Or.inl ⟨by rfl, ?hyh4⟩) hS0 ?rh4
            case hyh4 => (intro w' hSw; (try obtain ⟨q0, q1, q2, q3, q4, q5⟩ := hSw); simp only [List.getElem_toArray, List.getElem_cons_zero, List.getElem_cons_succ]; go_simp; try (with_reducible rfl))
            simp only [List.getElem_toArray, List.getElem_cons_zero, List.getElem_cons_succ, Act.put, List.setIfInBounds_toArray, List.set_cons_zero, List.set_cons_succ]
            refine wpAnyT_take (i := 5) (v := ?vh5) rfl (by kernel_rfl) (by kernel_rfl) (by kernel_rfl) (by kernel_rfl) (fun _ _ _ h => h) (Or.inl ⟨by rfl, ?hyh5⟩) hS0 ?rh5
            case hyh5 => (intro w' hSw; (try obtain ⟨q0, q1, q2, q3, q4, q5⟩ := hSw); simp only [List.getElem_toArray, List.getElem_cons_zero, List.getElem_cons_succ]; go_simp; try (with_reducible rfl))
            simp only [List.getElem_toArray, List.getElem_cons_zero, List.getElem_cons_succ, Act.put, List.setIfInBounds_toArray, List.set_cons_zero, List.set_cons_succ]
            refine wpAnyT_take (i := 6) (v := ?vh6) rfl (by kernel_rfl) (by kernel_rfl) (by kernel_rfl) (by kernel_rfl) (fun _ _ _ h => h) (Or.inl ⟨by rfl, ?hyh6⟩) hS0 ?rh6
            case hyh6 => (intro w' hSw; (try obtain ⟨q0, q1, q2, q3, q4, q5⟩ := hSw); simp only [List.getElem_toArray, List.getElem_cons_zero, List.getElem_cons_succ]; go_simp; try (with_reducible rfl))
            simp only [List.getElem_toArray, List.getElem_cons_zero, List.getElem_cons_succ, Act.put, List.setIfInBounds_toArray, List.set_cons_zero, List.set_cons_succ]
            refine wpAnyT_take (i := 7) (v := ?vh7) rfl (by kernel_rfl) (by kernel_rfl) (by kernel_rfl) (by kernel_rfl) (fun _ _ _ h => h) (Or.inl ⟨by rfl, ?hyh7⟩) hS0 ?rh7
            case hyh7 => (intro w' hSw; (try obtain ⟨q0, q1, q2, q3, q4, q5⟩ := hSw); simp only [List.getElem_toArray, List.getElem_cons_zero, List.getElem_cons_succ]; go_simp; try (with_reducible rfl))
            simp only [List.getElem_toArray, List.getElem_cons_zero, List.getElem_cons_succ, Act.put, List.setIfInBounds_toArray, List.set_cons_zero, List.set_cons_succ]
            refine wpAnyT_take (i := 8) (v := ?vh8) rfl (by kernel_rfl) (by kernel_rfl) (by kernel_rfl) (by kernel_rfl) (fun _ _ _ h => h) (Or.inl ⟨by rfl, ?hyh8⟩) hS0 ?rh8
            case hyh8 => (intro w' hSw; (try obtain ⟨q0, q1, q2, q3, q4, q5⟩ := hSw); simp only [List.getElem_toArray, List.getElem_cons_zero, List.getElem_cons_succ]; go_simp; try (with_reducible rfl))
            simp only [List.getElem_toArray, List.getElem_cons_zero, List.getElem_cons_succ, Act.put, List.setIfInBounds_toArray, List.set_cons_zero, List.set_cons_succ]
            refine wpAnyT_one (i := 9) rfl (by kernel_rfl) (by rfl) ?_
            simp only [List.getElem_toArray, List.getElem_cons_zero, List.getElem_cons_succ]
            go_simp
            refine (HC1.out _ hb0.drew).mono ?_
            rintro e x3 ⟨rfl, hbk⟩
            have hTk0 : Tells WB pv1 pv1 x0.drew x3 := .of_below hbk
            have hTk := (HT1.out.trans (.of_below hb0.drew)).trans hTk0
            have hWk := (HW1.out.below hb0.drew).below hbk
            have hS0 : (fun w' : World => w'.cell? ⟨qg, k, none⟩ = some (.int .i64 (pn : Int)) ∧ w'.cell? ⟨b, o + a.1 * 5, none⟩ = some (.int .i64 ln.d) ∧ w'.cell? ⟨b, o + a.1 * 5 + 1, none⟩ = some (.string ln.t) ∧ w'.cell? ⟨b, o + a.1 * 5 + 2, none⟩ = some (.int .i64 ln.k) ∧ w'.cell? ⟨b, o + a.1 * 5 + 3, none⟩ = some (.slice ln.ao ln.an ln.ac) ∧ w'.cell? ⟨b, o + a.1 * 5 + 4, none⟩ = some (.string ln.x)) x3 := ⟨(HFq.out.cell hTk).trans Cq5.out, (HFb.out.cell hTk).trans ((HFb.out.cell HT1.out).symm.trans d0), (HFb.out.cell hTk).trans ((HFb.out.cell HT1.out).symm.trans d1), (HFb.out.cell hTk).trans ((HFb.out.cell HT1.out).symm.trans d2), (HFb.out.cell hTk).trans ((HFb.out.cell HT1.out).symm.trans d3), (HFb.out.cell hTk).trans ((HFb.out.cell HT1.out).symm.trans d4)⟩
            refine ⟨.inr hS0, ?_⟩
            refine wpAnyT_take (i := 10) (v := ?vh10) rfl (by kernel_rfl) (by kernel_rfl) (by kernel_rfl) (by kernel_rfl) (fun _ _ _ h => h) (Or.inl ⟨by rfl, ?hyh10⟩) hS0 ?rh10
            case hyh10 => (intro w' hSw; (try obtain ⟨q0, q1, q2, q3, q4, q5⟩ := hSw); simp only [List.getElem_toArray, List.getElem_cons_zero, List.getElem_cons_succ]; go_simp; try (with_reducible rfl))
            simp only [List.getElem_toArray, List.getElem_cons_zero, List.getElem_cons_succ, Act.put, List.setIfInBounds_toArray, List.set_cons_zero, List.set_cons_succ]
            refine wpAnyT_done (by kernel_rfl) ?_ _
            have mD : x3.cell? ⟨D, 0, none⟩ = some (.int .i64 i) := (HDf.out.cell hTk).trans HD0.out
            have HFD := hide (HDf.out.tells hTk)
            have HWk := hide hWk
            clear hWk hbk
            have mN : x3.cell? ⟨N, 0, none⟩ = some (.int .i64 id) := (HFN.out.cell hTk).trans HN5.out.c0
            have HFN3 := hide (HFN.out.tells hTk)
            have HTk := hide hTk
            have HSk := hide (HS1.out.tells ((Tells.of_below hb0.drew).trans hTk0))
            have hBk : B ≤ x3.heap.size := Nat.le_trans hB5 hTk.touch.size
            clear hTk hTk0 hS0 mq m0 m1 m2 m3 m4 hb0
            go_wp2_with fail
            have hS0 : (fun w' : World => w'.cell? ⟨D, 0, none⟩ = some (.int .i64 i) ∧ w'.cell? ⟨N, 0, none⟩ = some (.int .i64 id)) x3.drew := ⟨mD, mN⟩
            refine wp_region_last (S := (fun w' : World => w'.cell? ⟨D, 0, none⟩ = some (.int .i64 i) ∧ w'.cell? ⟨N, 0, none⟩ = some (.int .i64 id))) (by kernel_rfl) ?_
            refine wpAnyT_take (i := 0) (v := ?vht0) rfl (by kernel_rfl) (by kernel_rfl) (by kernel_rfl) (by kernel_rfl) (fun _ _ _ h => h) (Or.inl ⟨by rfl, ?hyht0⟩) hS0 ?rht0
            case hyht0 => (intro w' hSw; (try obtain ⟨q0, q1⟩ := hSw); simp only [List.getElem_toArray, List.getElem_cons_zero]; go_simp; try (with_reducible rfl))
            simp only [List.getElem_toArray, List.getElem_cons_zero, Act.put, List.setIfInBounds_toArray, List.set_cons_zero, List.set_cons_succ]
            refine wpAnyT_take (i := 1) (v := ?vht1) rfl (by kernel_rfl) (by kernel_rfl) (by kernel_rfl) (by kernel_rfl) (fun _ _ _ h => h) (Or.inl ⟨by rfl, ?hyht1⟩) hS0 ?rht1
            case hyht1 => (intro w' hSw; (try obtain ⟨q0, q1⟩ := hSw); simp only [List.getElem_toArray, List.getElem_cons_zero, List.getElem_cons_succ]; go_simp; try (with_reducible rfl))
            simp only [List.getElem_toArray, List.getElem_cons_zero, List.getElem_cons_succ, Act.put, List.setIfInBounds_toArray, List.set_cons_zero, List.set_cons_succ]
            refine wpAnyT_take (i := 2) (v := ?vht2) rfl (by kernel_rfl) (by kernel_rfl) (by kernel_rfl) (by kernel_rfl) (fun _ _ _ h => h) (Or.inl ⟨by rfl, ?hyht2⟩) hS0 ?rht2
            case hyht2 => (intro w' hSw; (try obtain ⟨q0, q1⟩ := hSw); simp only [List.getElem_toArray, List.getElem_cons_zero, List.getElem_cons_succ]; go_simp; try (with_reducible rfl))
            simp only [List.getElem_toArray, List.getElem_cons_zero, List.getElem_cons_succ, Act.put, List.setIfInBounds_toArray, List.set_cons_zero, List.set_cons_succ]
            refine wpAnyT_take (i := 3) (v := ?vht3) rfl (by kernel_rfl) (by kernel_rfl) (by kernel_rfl) (by kernel_rfl) (fun _ _ _ h => h) (Or.inl ⟨by rfl, ?hyht3⟩) hS0 ?rht3
            case hyht3 => (intro w' hSw; (try obtain ⟨q0, q1⟩ := hSw); simp only [List.getElem_toArray, List.getElem_cons_zero, List.getElem_cons_succ]; go_simp; try (with_reducible rfl))
            simp only [List.getElem_toArray, List.getElem_cons_zero, List.getElem_cons_succ, Act.put, List.setIfInBounds_toArray, List.set_cons_zero, List.set_cons_succ]
            refine wpAnyT_take (i := 4) (v := ?vht4) rfl (by kernel_rfl) (by kernel_rfl) (by kernel_rfl) (by kernel_rfl) (fun _ _ _ h => h) (Or.inl ⟨by rfl, ?hyht4⟩) hS0 ?rht4
            case hyht4 => (intro w' hSw; (try obtain ⟨q0, q1⟩ := hSw); simp only [List.getElem_toArray, List.getElem_cons_zero, List.getElem_cons_succ]; go_simp; try (with_reducible rfl))
            simp only [List.getElem_toArray, List.getElem_cons_zero, List.getElem_cons_succ, Act.put, List.setIfInBounds_toArray, List.set_cons_zero, List.set_cons_succ]
            refine wpAnyT_take (i := 5) (v := ?vht5) rfl (by kernel_rfl) (by kernel_rfl) (by kernel_rfl) (by kernel_rfl) (fun _ _ _ h => h) (Or.inl ⟨by rfl, ?hyht5⟩) hS0 ?rht5
            case hyht5 => (intro w' hSw; (try obtain ⟨q0, q1⟩ := hSw); simp only [List.getElem_toArray, List.getElem_cons_zero, List.getElem_cons_succ]; go_simp; try (with_reducible rfl))
            simp only [List.getElem_toArray, List.getElem_cons_zero, List.getElem_cons_succ, Act.put, List.setIfInBounds_toArray, List.set_cons_zero, List.set_cons_succ]
            refine wpAnyT_take (i := 6) (v := ?vht6) rfl (by kernel_rfl) (by kernel_rfl) (by kernel_rfl) (by kernel_rfl) (fun _ _ _ h => h) (Or.inl ⟨by rfl, ?hyht6⟩) hS0 ?rht6
            case hyht6 => (intro w' hSw; (try obtain ⟨q0, q1⟩ := hSw); simp only [List.getElem_toArray, List.getElem_cons_zero, List.getElem_cons_succ]; go_simp; try (with_reducible rfl))
            simp only [List.getElem_toArray, List.getElem_cons_zero, List.getElem_cons_succ, Act.put, List.setIfInBounds_toArray, List.set_cons_zero, List.set_cons_succ]
            refine wpAnyT_take (i := 7) (v := ?vht7) rfl (by kernel_rfl) (by kernel_rfl) (by kernel_rfl) (by kernel_rfl) (fun _ _ _ h => h) (Or.inl ⟨by rfl, ?hyht7⟩) hS0 ?rht7
            case hyht7 => (intro w' hSw; (try obtain ⟨q0, q1⟩ := hSw); simp only [List.getElem_toArray, List.getElem_cons_zero, List.getElem_cons_succ]; go_simp; try (with_reducible rfl))
            simp only [List.getElem_toArray, List.getElem_cons_zero, List.getElem_cons_succ, Act.put, List.setIfInBounds_toArray, List.set_cons_zero, List.set_cons_succ]
            refine wpAnyT_take (i := 8) (v := ?vht8) rfl (by kernel_rfl) (by kernel_rfl) (by kernel_rfl) (by kernel_rfl) (fun _ _ _ h => h) (Or.inl ⟨by rfl, ?hyht8⟩) hS0 ?rht8
            case hyht8 => (intro w' hSw; (try obtain ⟨q0, q1⟩ := hSw); simp only [List.getElem_toArray, List.getElem_cons_zero, List.getElem_cons_succ]; go_simp; try (with_reducible rfl))
            simp only [List.getElem_toArray, List.getElem_cons_zero, List.getElem_cons_succ, Act.put, List.setIfInBounds_toArray, List.set_cons_zero, List.set_cons_succ]
            refine wpAnyT_take (i := 9) (v := ?vht9) rfl (by kernel_rfl) (by kernel_rfl) (by kernel_rfl) (by kernel_rfl) (fun _ _ _ h => h) (Or.inl ⟨by rfl, ?hyht9⟩) hS0 ?rht9
            case hyht9 => (intro w' hSw; (try obtain ⟨q0, q1⟩ := hSw); simp only [List.getElem_toArray, List.getElem_cons_zero, List.getElem_cons_succ]; go_simp; try (with_reducible rfl))
            simp only [List.getElem_toArray, List.getElem_cons_zero, List.getElem_cons_succ, Act.put, List.setIfInBounds_toArray, List.set_cons_zero, List.set_cons_succ]
            refine wpAnyT_take (i := 10) (v := ?vht10) rfl (by kernel_rfl) (by kernel_rfl) (by kernel_rfl) (by kernel_rfl) (fun _ _ _ h => h) (Or.inl ⟨by rfl, ?hyht10⟩) hS0 ?rht10
            case hyht10 => (intro w' hSw; (try obtain ⟨q0, q1⟩ := hSw); simp only [List.getElem_toArray, List.getElem_cons_zero, List.getElem_cons_succ]; go_simp; try (with_reducible rfl))
            simp only [List.getElem_toArray, List.getElem_cons_zero, List.getElem_cons_succ, Act.put, List.setIfInBounds_toArray, List.set_cons_zero, List.set_cons_succ]
            refine wpAnyT_one (i := 11) rfl (by kernel_rfl) (by rfl) ?_
            simp only [List.getElem_toArray, List.getElem_cons_zero, List.getElem_cons_succ]
            go_simp
            refine ⟨.inr ?_, ?_⟩
            · exact ⟨((((Below.refl x3.heap.size x3).alloc (Nat.le_refl _) _).cell (p := ⟨D, 0, none⟩) (World.block_lt_of_cell? _ _ mD))).trans mD, ((((Below.refl x3.heap.size x3).alloc (Nat.le_refl _) _).cell (p := ⟨N, 0, none⟩) (World.block_lt_of_cell? _ _ mN))).trans mN⟩
            clear hS0
            refine wpAnyT_one (i := 12) rfl (by kernel_rfl) (by rfl) ?_
            simp only [List.getElem_toArray, List.getElem_cons_zero, List.getElem_cons_succ]
            go_simp
            refine (tell_new B WB pv1 (P ++ q.pats) q.last x3 HWk.out hBk (by have := HBb.out; simp only [List.length_append] at this ⊢; omega) 2 i id bv 0 ⟨#[]⟩ ⟨#[]⟩ ⟨#[]⟩ (by decide) (by decide) (by decide)).mono ?_
            rintro e x4 ⟨rfl, pv4, hW4, hT4⟩
            refine ⟨.inr ⟨(HFD.out.cell hT4).trans mD, (HFN3.out.cell hT4).trans mN⟩, ?_⟩
            have HW4 := hide hW4
            have HT4' := hide hT4
            have HT4 := hide (HTk.out.trans hT4)
            have HS4 := hide (HSk.out.tells hT4)
            have HCb := hide (HC2.out pv4 x4 (HTk.out.trans hT4) hW4)
            clear hW4 hT4 mD mN
            refine wpAnyT_done (by kernel_rfl) ?_ _
            go_wp2_with (first | (go_at_call 41; refine (unhide HCb).mono ?_; rintro e x5 ⟨rfl, pv5, hW5', hT5'⟩; have HW5' := hide hW5'; have HT5' := hide (HT4.out.trans hT5'); have HS5' := hide (HS4.out.tells hT5'); clear hW5' hT5'))
            go_roundw
            case rel =>
              have hst3 := HSt2.out
              refine ⟨k + 1, by go_num, hlt, _, _, _, rfl, ?_, ?_, hide ⟨pv5, ?_, HT5'.out, ?_⟩⟩
              · rw [hst3]; simp [hqs]
              · rw [hsn] at hsc; exact hsc
              · rw [hst3]; simpa [List.append_assoc] using HW5'.out
              · rw [hst3]; simpa [hqs] using HS5'.out
            case measure => simp [intOf]; omega
    · go_wp2_with fail
      have : m = k := by omega
      subst this
      refine bodyPost_end (results_none rfl _ _ _) rfl ?_
      obtain ⟨pv', h1, h2, _⟩ := hE.out
      refine ⟨rfl, pv', ?_, HQ5.out.trans h2⟩
      rw [HR2'.out]
      exact h1
end Go.Proofs.Ytobgcaemnpkbmaa
