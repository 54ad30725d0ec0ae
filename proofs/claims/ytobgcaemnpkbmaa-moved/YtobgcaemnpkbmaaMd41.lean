/- Il Im Kd In -/
import Derived.Test.YtobgcaemnpkbmaaMd40
import Derived.Test.YtobgcaemnpkbmaaMd39
namespace Go.Proofs.Ytobgcaemnpkbmaa
open Go.RowKit
theorem sub_filter {l m : List Int} (h : l.Sublist m) (hn : m.Nodup) : m.filter (fun b => l.contains b) = l := by
  induction h with
  | slnil => rfl
  | @cons l m a h ih =>
    obtain ⟨h1, h2⟩ := List.nodup_cons.1 hn
    have : l.contains a = false := by
      have : a ∉ l := fun e => h1 (h.subset e)
      simpa using this
    rw [List.filter_cons_of_neg (by rw [this]; simp)]
    exact ih h2
  | @cons_cons l m a h ih =>
    obtain ⟨h1, h2⟩ := List.nodup_cons.1 hn
    rw [List.filter_cons_of_pos (by simp)]
    congr 1
    refine (List.filter_congr fun b hb => ?_).trans (ih h2)
    have : b ≠ a := fun e => by subst e; exact h1 hb
    simp [this]
theorem kids_range (ks : List Int) : (List.range ks.length).map (fun j => ks.getD j 0) = ks := by
  refine List.ext_getElem (by simp) fun i h7 h8 => ?_
  simp [h8]
theorem stay_sub {ks pr : List Int} (hr : ∀ v, v ∈ stayOf pr → ∃ p : Nat, v = (p : Int) ∧ p < ks.length) : ((stayOf pr).map (kidAt ks)).Sublist ks := by
  have h1 := (stay_rise pr).1
  have h2 : ((stayOf pr).map Int.toNat).Pairwise (fun a b => a < b) := by
    rw [List.pairwise_map]
    refine h1.imp_of_mem fun {a b} ha hb hab => ?_
    obtain ⟨p, rfl, _⟩ := hr a ha
    obtain ⟨q, rfl, _⟩ := hr b hb
    simp only [Int.toNat_natCast]
    omega
  have h3 : ((stayOf pr).map Int.toNat).Sublist (List.range ks.length) := sorted_sub (lt := fun a b : Nat => a < b) (fun a => Nat.lt_irrefl a) (fun a b c => Nat.lt_trans) _ _ h2 List.pairwise_lt_range fun a ha => by
    obtain ⟨v, hv, rfl⟩ := List.mem_map.1 ha
    obtain ⟨p, rfl, hp⟩ := hr v hv
    simpa using hp
  have h4 := h3.map (fun j => ks.getD j 0)
  rw [kids_range, List.map_map] at h4
  exact h4
theorem kids_start {T : Int → NI} {L : Nat → Nod} {R R1 : List RN} {last : Int} (h : DocOk R last) {id : Int} (hid : Has R id) {y : NI} (hy : niOf R id = y) {ks pr : List Int} (hks : y.kids = ks) (hT : ∀ j, Dsc (niOf R) id j → j ≠ id → niOf R j = T j) (hrange : ∀ v, v ∈ pr → v = -1 ∨ ∃ p : Nat, v = (p : Int) ∧ p < ks.length)
    (h2 : ∀ i, Has R1 i ↔ Has R i ∧ ∀ c, outB ks pr ks.length c = true → ¬ Dsc (niOf R) c i) (h3 : ∀ i, Has R1 i → i ≠ id → niOf R1 i = niOf R i) (h4 : Has R1 id) (h5 : niOf R1 id = { niOf R id with kids := ks.filter (fun c => !outB ks pr ks.length c) }) (h6 : R1.length ≤ R.length) (s f : Nat) (ps : List (Nat × Nat)) (hpl : pr.length = ps.length) :
    KInv T L R id y ks pr s ps f 0 0 0 R1 (ks.filter (fun c => !outB ks pr ks.length c)) [] ((stayOf pr).map (kidAt ks)) := by
  have hI := h.ids
  have hkids : (niOf R id).kids = ks := by rw [hy, hks]
  have hnd : ks.Nodup := by rw [← hkids]; exact kin_nodup hI hid
  have hKid : ∀ b, b ∈ ks → b ∈ (niOf R id).kids := fun b hb => by rw [hkids]; exact hb
  have hin : ∀ p : Nat, p < ks.length → (p : Int) ∈ pr → outB ks pr ks.length (ks.getD p 0) = false := fun p hp hm => by
    cases e : outB ks pr ks.length (ks.getD p 0) with
    | false => rfl
    | true =>
      obtain ⟨j, hj, e1, e2⟩ := outB_iff.1 e
      have := nodup_inj hnd hj hp e1
      subst this
      have : pr.contains (j : Int) = true := by simpa using hm
      rw [this] at e2
      cases e2
  have hout : ∀ c, outB ks pr ks.length c = true → c ∈ ks := fun c hc => by
    obtain ⟨j, hj, e1, _⟩ := outB_iff.1 hc
    rw [← e1]
    exact getD_mem hj
  have hsr : ∀ v, v ∈ stayOf pr → ∃ p : Nat, v = (p : Int) ∧ p < ks.length := fun v hv => by
    obtain ⟨e1, e2⟩ := stayOf_range hv
    exact (hrange v e1).resolve_left e2
  have hsub : ∀ b, b ∈ ks → outB ks pr ks.length b = false → ∀ p, Dsc (niOf R) b p → Has R1 p ∧ niOf R1 p = niOf R p := fun b hb ho p hp => by
    have hP : Has R1 p := (h2 p).2 ⟨dsc_has hI (kid_has hI hid (hKid b hb)) hp, fun c hc hd => dsc_apart h hid (hKid c (hout c hc)) (hKid b hb) (fun e => by rw [e, ho] at hc; cases hc) hd hp⟩
    exact ⟨hP, h3 p hP fun e => by subst e; exact dsc_not h hid (hKid b hb) hp⟩
  have hiff : ∀ b, b ∈ ks → outB ks pr ks.length b = false → ∀ j, Dsc (niOf R1) b j ↔ Dsc (niOf R) b j := fun b hb ho j => ⟨fun e => e.back fun p hp => (hsub b hb ho p hp).2, fun e => e.keep fun p hp => (hsub b hb ho p hp).2⟩
  have hkids1 : (niOf R1 id).kids = ks.filter (fun c => !outB ks pr ks.length c) := by rw [h5]
  refine ⟨h4, by rw [h5, hy], rfl, ?_, fun b hb => ?_, fun j _ hj2 hj3 => ?_, fun j hj => absurd hj (Nat.not_lt_zero _), fun j hj => absurd hj (Nat.not_lt_zero _), fun j hj => absurd hj (Nat.not_lt_zero _), fun j hj hn => ?_, fun j hj => ?_, by omega⟩
  · rw [List.nil_append, List.filter_filter]
    refine (List.filter_congr fun b hb => ?_).trans (sub_filter (stay_sub hsr) hnd)
    cases e : ((stayOf pr).map (kidAt ks)).contains b with
    | false => simp
    | true =>
      have hm : b ∈ (stayOf pr).map (kidAt ks) := by simpa using e
      obtain ⟨v, hv, rfl⟩ := List.mem_map.1 hm
      obtain ⟨p, rfl, hp⟩ := hsr v hv
      have := hin p hp (stayOf_range hv).1
      have e2 : kidAt ks (p : Int) = ks.getD p 0 := by unfold kidAt; rw [Int.toNat_natCast]
      rw [e2, this]
      rfl
  · right
    obtain ⟨hb1, hb2⟩ := List.mem_filter.1 hb
    obtain ⟨p, hp, rfl⟩ := List.getElem_of_mem hb1
    have e : ks.getD p 0 = ks[p] := by rw [List.getD_eq_getElem?_getD, List.getElem?_eq_getElem hp]; rfl
    cases hc : pr.contains (p : Int) with
    | false =>
      have : outB ks pr ks.length ks[p] = true := outB_iff.2 ⟨p, hp, e, hc⟩
      rw [this] at hb2
      cases hb2
    | true =>
      have hm : (p : Int) ∈ pr := by simpa using hc
      obtain ⟨j, hj, ej⟩ := List.getElem_of_mem hm
      have ej2 : pr.getD j 0 = (p : Int) := by rw [List.getD_eq_getElem?_getD, List.getElem?_eq_getElem hj]; exact ej
      exact ⟨j, Nat.zero_le _, by omega, by rw [ej2]; omega, by rw [ej2, Int.toNat_natCast, e]⟩
  · have hjm : pr.getD j 0 ∈ pr := getD_mem (by omega)
    obtain ⟨p, ep, hp⟩ := (hrange _ hjm).resolve_left hj3
    rw [ep, Int.toNat_natCast]
    have ho := hin p hp (by rw [← ep]; exact hjm)
    have hm := getD_mem hp
    refine ⟨List.mem_filter.2 ⟨hm, by rw [ho]; rfl⟩, by simp, fun i hi => ?_⟩
    have hi' := (hiff _ hm ho i).1 hi
    rw [(hsub _ hm ho i hi').2]
    exact hT i (dsc_kid.2 (.inr ⟨_, hKid _ hm, hi'⟩)) fun e => by subst e; exact dsc_not h hid (hKid _ hm) hi'
  · have hji : j ≠ id := fun e => hn (by rw [e]; exact .self _)
    have hJ : Has R1 j := (h2 j).2 ⟨hj, fun c hc hd => hn (dsc_kid.2 (.inr ⟨c, hKid c (hout c hc), hd⟩))⟩
    refine ⟨hJ, h3 j hJ hji, fun e => ?_⟩
    rcases dsc_kid.1 e with e1 | ⟨b, hb, hd⟩
    · exact hji e1
    · rw [hkids1] at hb
      obtain ⟨hb1, hb2⟩ := List.mem_filter.1 hb
      have hb3 : outB ks pr ks.length b = false := by simpa using hb2
      exact hn (dsc_kid.2 (.inr ⟨b, hKid b hb1, (hiff b hb1 hb3 j).1 hd⟩))
  · obtain ⟨g1, g2⟩ := (h2 j).1 hj
    by_cases hd : Dsc (niOf R) id j
    · right
      rcases dsc_kid.1 hd with e1 | ⟨b, hb, hd⟩
      · rw [e1]; exact .self _
      · rw [hkids] at hb
        have hb3 : outB ks pr ks.length b = false := by
          cases e : outB ks pr ks.length b with
          | false => rfl
          | true => exact absurd hd (g2 b e)
        exact dsc_kid.2 (.inr ⟨b, by rw [hkids1]; exact List.mem_filter.2 ⟨hb, by rw [hb3]; rfl⟩, (hiff b hb hb3 j).2 hd⟩)
    · exact .inl ⟨g1, hd⟩
theorem KFix.all {T : Int → NI} {L : Nat → Nod} {br : Br} {f : Nat} {R : List RN} {id : Int} {y : NI} {ks pr : List Int} {s n : Nat} {ps : List (Nat × Nat)} (F : KFix T L br f R id y ks pr s n ps) {last : Int} {q0 : KS} {R1 : List RN} {kk0 : List Int} (hrun : RunL R last q0.pats R1 q0.last) (h0 : KInv T L R id y ks pr s ps f 0 0 0 R1 kk0 [] (q0.stay.map (kidAt ks))) (hok : DocOk R1 q0.last) (hF : Fine R1) (hst : q0.stay.Sublist pr) (hsn : ∀ v, v ∈ q0.stay → v ≠ -1) (hnew : ∀ i, Has R i → i ≤ q0.last) (hmono : ∀ k, k ≤ ps.length → q0.last ≤ (kidsDone br T L id ks s ps pr q0 k).last) :
    ∀ k, k ≤ ps.length → ∃ Rk kk proc, RunL R last (kidsDone br T L id ks s ps pr q0 k).pats Rk (kidsDone br T L id ks s ps pr q0 k).last ∧ KInv T L R id y ks pr s ps f k k (sizeTo ps k) Rk kk proc ((kidsDone br T L id ks s ps pr q0 k).stay.map (kidAt ks)) ∧ DocOk Rk (kidsDone br T L id ks s ps pr q0 k).last ∧ Fine Rk ∧ (kidsDone br T L id ks s ps pr q0 k).stay.Sublist (pr.drop k)
  | 0, _ => ⟨R1, kk0, [], hrun, h0, hok, hF, by rw [List.drop_zero]; exact hst⟩
  | k + 1, hk => by
    obtain ⟨Rk, kk, proc, h1, h2, h3, h4, h5⟩ := KFix.all F hrun h0 hok hF hst hsn hnew hmono k (by omega)
    obtain ⟨R', kk', proc', P, e1, e2, e3, e4⟩ := F.step (by omega) h2 h3 h4 h5 (fun v hv => hsn v (kidsDone_sub br T L id ks s ps pr q0 k v hv)) (fun i hi => by have := hnew i hi; have := hmono k (by omega); omega)
    obtain ⟨d1, d2⟩ := e2.ok h3 h4
    refine ⟨R', kk', proc', ?_, e3, d1, d2, e4⟩
    show RunL R last (kidStep br T L id ks s (kidsDone br T L id ks s ps pr q0 k) (ps.getD k (0, 0)) (pr.getD k 0)).pats R' _
    rw [e1]
    exact h1.app e2
theorem KInv.done {T : Int → NI} {L : Nat → Nod} {R : List RN} {id : Int} {y : NI} {ks pr : List Int} {s : Nat} {ps : List (Nat × Nat)} {f sz : Nat} {Rk : List RN} {l : Int} {kk proc sk : List Int} (h : KInv T L R id y ks pr s ps f ps.length ps.length sz Rk kk proc sk) (hok : DocOk Rk l) : kk = proc := by
  have hnd : kk.Nodup := by rw [← h.kids]; exact kin_nodup hok.ids h.hid
  have hall : ∀ b, b ∈ kk → b ∈ proc := fun b hb => by
    rcases h.mem b hb with e | ⟨j, h1, h2, _⟩
    · exact e
    · omega
  have e1 : kk.filter (fun b => proc.contains b || sk.contains b) = kk := by
    rw [List.filter_eq_self]
    intro b hb
    have : proc.contains b = true := by simpa using hall b hb
    rw [this]
    rfl
  have e2 : kk = proc ++ sk := by rw [← h.filt, e1]
  cases hs : sk with
  | nil => rw [e2, hs, List.append_nil]
  | cons a t =>
    exfalso
    rw [e2, hs] at hnd hall
    exact (List.nodup_append.1 hnd).2.2 a (hall a (by simp)) a (by simp) rfl
end Go.Proofs.Ytobgcaemnpkbmaa
namespace Go.Proofs.Ytobgcaemnpkbmaa
open Go.RowKit
theorem Dsc.kin {T T' : Int → NI} {i j : Int} (h : Dsc T i j) (hk : ∀ p, Dsc T i p → (T' p).kids = (T p).kids) : Dsc T' i j := by
  induction h with
  | self => exact .self _
  | @step i k j h1 _ ih =>
    refine .step (k := k) (by rw [hk i (.self _)]; exact h1) (ih fun p hp => hk p (.step h1 hp))
theorem Dsc.kinb {T T' : Int → NI} {i j : Int} (h : Dsc T' i j) (hk : ∀ p, Dsc T i p → (T' p).kids = (T p).kids) : Dsc T i j := by
  induction h with
  | self => exact .self _
  | @step i k j h1 _ ih =>
    have h2 : k ∈ (T i).kids := by rw [← hk i (.self _)]; exact h1
    exact .step h2 (ih fun p hp => hk p (.step h2 hp))
theorem pairs_get (T : Int → NI) (L : Nat → Nod) (ks : List Int) (s : Nat) (ps : List (Nat × Nat)) {j : Nat} (hj : j < ps.length) : (pairsOf T L ks s ps).getD j 0 = pairAt (fun j => ((T (ks.getD j 0)).tag, (T (ks.getD j 0)).key)) ks.length (fun j => ((L (s + (ps.getD j (0, 0)).1)).t, (L (s + (ps.getD j (0, 0)).1)).k)) j := by
  unfold pairsOf pairsP
  rw [List.getD_eq_getElem?_getD, List.getElem?_map, List.getElem?_range hj]
  rfl
theorem bring_s {T : Int → NI} {L : Nat → Nod} (hTf : ∀ i, NiFine (T i)) (hsm : ∀ i, (T i).kids.length ≤ 1000 ∧ (T i).ats.length ≤ 5) : ∀ f, BringS T L (bringP T L f) f
  | 0 => fun _ _ _ _ _ _ _ _ h1 h2 => by have := h2.pos; omega
  | f + 1 => fun R last id x s n hok hF hnf hpc hid hx hxf htag hkey hroom hT => by
    have hI := hok.ids
    have hnode0 := hpc.node 0 hpc.pos
    rw [Nat.add_zero] at hnode0
    obtain ⟨Rd, d1, d2⟩ := run_dress hok hF hid hx hxf hnode0 htag
    obtain ⟨hokd, hFd⟩ := d1.ok hok hF
    have hidd := (d2.has id).2 hid
    have hkin : ∀ p, Has R p → (niOf Rd p).kids = (niOf R p).kids := fun p hp => by
      by_cases e : p = id
      · rw [e, d2.at', hx]
      · rw [d2.rest p hp e]
    have hDd : ∀ j, Dsc (niOf Rd) id j ↔ Dsc (niOf R) id j := fun j => ⟨fun e => e.kinb fun p hp => hkin p (dsc_has hI hid hp), fun e => e.kin fun p hp => hkin p (dsc_has hI hid hp)⟩
    have hTd : ∀ j, Dsc (niOf Rd) id j → j ≠ id → niOf Rd j = T j := fun j hj hne => by
      have hj' := (hDd j).1 hj
      rw [d2.rest j (dsc_has hI hid hj') hne]
      exact hT j hj' hne
    generalize hy : ({ x with text := (L s).x, ats := atsOf (L s) } : NI) = y at *
    have hyk : y.kids = x.kids := by rw [← hy]
    have hkd : (niOf Rd id).kids = x.kids := by rw [d2.at', hyk]
    have hnd : x.kids.Nodup := by rw [← hkd]; exact kin_nodup hokd.ids hidd
    generalize hps : partsOf L s n = ps at *
    generalize hpr : pairsOf T L x.kids s ps = pr at *
    have hplen : pr.length = ps.length := by rw [← hpr]; exact pairsOf_length ..
    have hrange : ∀ v, v ∈ pr → v = -1 ∨ ∃ p : Nat, v = (p : Int) ∧ p < x.kids.length := fun v hv => by
      rw [← hpr] at hv
      rcases pairsOf_range hv with e | ⟨e1, e2⟩
      · exact .inl e
      · exact .inr ⟨v.toNat, by omega, by omega⟩
    have hget : ∀ j, j < ps.length → pr.getD j 0 = pairAt (fun j => ((T (x.kids.getD j 0)).tag, (T (x.kids.getD j 0)).key)) x.kids.length (fun j => ((L (s + (ps.getD j (0, 0)).1)).t, (L (s + (ps.getD j (0, 0)).1)).k)) j := fun j hj => by rw [← hpr]; exact pairs_get T L x.kids s ps hj
    obtain ⟨R1, r1, r2, r3, r4, r5, r6, r7⟩ := run_rems hokd hidd hkd pr x.kids.length (Nat.le_refl _)
    obtain ⟨_, hF1⟩ := r1.ok hokd hFd
    have hK0 : KInv T L Rd id y x.kids pr s ps f 0 0 0 R1 (x.kids.filter (fun c => !outB x.kids pr x.kids.length c)) [] ((stayOf pr).map (kidAt x.kids)) := kids_start hokd hidd d2.at' hyk hTd hrange r3 r4 r5 r6 r7 s f ps hplen
    have hfew := bringP_few (L := L) hsm f
    have hFx : KFix T L (bringP T L f) f Rd id y x.kids pr s n ps := by
      refine ⟨bring_s hTf hsm f, hTf, hpc, hps.symm, hplen, hnf, by rw [← hy]; exact htag, by rw [d2.len]; exact hroom, fun i j hi hj hpi e hpj => ?_, fun j hj hpj => ?_⟩
      · have hmi : pr.getD i 0 ∈ pr := getD_mem (by omega)
        have hmj : pr.getD j 0 ∈ pr := getD_mem (by omega)
        obtain ⟨p, ep, hp⟩ := (hrange _ hmi).resolve_left hpi
        obtain ⟨q, eq, hq⟩ := (hrange _ hmj).resolve_left hpj
        unfold kidAt at e
        rw [ep, eq, Int.toNat_natCast, Int.toNat_natCast] at e
        have := nodup_inj hnd hp hq e
        subst this
        exact pair_inj ((hget i hi).symm.trans ep) ((hget j hj).symm.trans eq) (by omega)
      · obtain ⟨p, e1, e2, e3, _⟩ := pair_key (hget j hj).symm hpj
        unfold kidAt
        rw [e1, Int.toNat_natCast]
        have e3 := Prod.ext_iff.1 e3
        exact ⟨e3.1.symm, e3.2.symm⟩
    have hbk : bringKidsP (bringP T L f) T L id x s n last = ((kidsDone (bringP T L f) T L id x.kids s ps pr ⟨remsP (fun j => x.kids.getD j 0) pr x.kids.length, stayOf pr, last⟩ ps.length).pats, (kidsDone (bringP T L f) T L id x.kids s ps pr ⟨remsP (fun j => x.kids.getD j 0) pr x.kids.length, stayOf pr, last⟩ ps.length).last) := by
      unfold bringKidsP
      simp only [hps, hpr]
    obtain ⟨Rk, kk, proc, a1, a2, a3, a4, _⟩ := hFx.all (q0 := ⟨remsP (fun j => x.kids.getD j 0) pr x.kids.length, stayOf pr, last⟩) r1 hK0 r2 hF1 (stay_rise pr).2 (fun v hv => (stayOf_range hv).2) (fun i hi => by
      obtain ⟨m, hm, rfl⟩ := hi
      exact hokd.top m hm) (fun k hk => (kidsDone_few hfew hsm id x.kids s n hnf (fun i hi => (el_attr (hpc.node i hi)).1) ps (fun a ha => partsP_span hpc.pos (by rw [← hps] at ha; exact ha)) pr _ k hk).2.1) ps.length (Nat.le_refl _)
    have hkp := a2.done a3
    have hsz : sizeTo ps ps.length + 1 ≤ n := by rw [← hps]; exact sizeTo_lt _ hpc.pos (Nat.le_refl _)
    refine ⟨Rk, ?_, ?_, fun j hj hn => ?_, fun j hj => ?_, ?_, ?_⟩
    · show RunL R last (textP id x (L s) ++ attrsP id x (L s) ++ (bringKidsP (bringP T L f) T L id x s n last).1) Rk (bringKidsP (bringP T L f) T L id x s n last).2
      rw [hbk]
      exact d1.app a1
    · unfold TreeAt
      rw [a2.ni, hps]
      rw [← hy]
      refine ⟨a2.hid, htag, hkey, rfl, rfl, ?_, fun k hk => ?_⟩
      · show kk.length = ps.length
        rw [hkp]
        exact a2.len
      · show TreeAt Rk L f (kk.getD k 0) _ _
        rw [hkp]
        exact a2.tree k hk
    · have hne : j ≠ id := fun e => hn (by rw [e]; exact .self _)
      obtain ⟨g1, g2, g3⟩ := a2.frame j ((d2.has j).2 hj) (fun e => hn ((hDd j).1 e))
      exact ⟨g1, g2.trans (d2.rest j hj hne), g3⟩
    · rcases a2.cover j hj with ⟨e1, e2⟩ | e
      · exact .inl ⟨(d2.has j).1 e1, fun e => e2 ((hDd j).2 e)⟩
      · exact .inr e
    · have := a2.size
      have := d2.len
      omega
    · unfold KeepAt
      rw [hps, hpr, a2.ni]
      intro k hk hpk
      show kk.getD k 0 = _ ∧ kk.getD k 0 ∈ kk ∧ KeepAt Rk T L f (kk.getD k 0) _ _ _
      rw [hkp]
      exact ⟨a2.pairs k hk hpk, getD_mem (by rw [a2.len]; exact hk), a2.keeps k hk hpk⟩
end Go.Proofs.Ytobgcaemnpkbmaa
namespace Go.Proofs.Ytobgcaemnpkbmaa
open Go.RowKit
def kindN (j : Int) (P : List Pat) : Nat := P.countP fun x => x.kind == j
theorem kindN_app (j : Int) (P Q : List Pat) : kindN j (P ++ Q) = kindN j P + kindN j Q := by unfold kindN; rw [List.countP_append]
theorem kindN_nil (j : Int) : kindN j [] = 0 := rfl
theorem kindN_one (j : Int) (x : Pat) : kindN j [x] = if x.kind = j then 1 else 0 := by
  unfold kindN
  by_cases h : x.kind = j
  · simp [h]
  · simp [h]
def partPats (br : Br) (T : Int → NI) (L : Nat → Nod) (ks : List Int) (s : Nat) (q : KS) (a : Nat × Nat) (p : Int) : List Pat :=
  if p = -1 then (br (q.last + 1) ⟨(L (s + a.1)).k, (L (s + a.1)).t, (L (s + a.1)).x, [], []⟩ (s + a.1) (a.2 - a.1) (q.last + 1)).1 else (br (ks.getD p.toNat 0) (T (ks.getD p.toNat 0)) (s + a.1) (a.2 - a.1) q.last).1
def partsN (j : Int) (br : Br) (T : Int → NI) (L : Nat → Nod) (id : Int) (ks : List Int) (s : Nat) (ps : List (Nat × Nat)) (pr : List Int) (q : KS) : Nat → Nat
  | 0 => 0
  | k + 1 => partsN j br T L id ks s ps pr q k + kindN j (partPats br T L ks s (kidsDone br T L id ks s ps pr q k) (ps.getD k (0, 0)) (pr.getD k 0))
def newN (pr : List Int) (k : Nat) : Nat := (pr.take k).countP fun p => p == -1
theorem newN_succ {pr : List Int} {k : Nat} (h : k < pr.length) : newN pr (k + 1) = newN pr k + if pr.getD k 0 = -1 then 1 else 0 := by
  unfold newN
  rw [List.take_succ_eq_append_getElem h, List.countP_append, List.getD_eq_getElem?_getD, List.getElem?_eq_getElem h]
  by_cases e : pr[k] = -1
  · simp [e]
  · simp [e]
theorem done_stay {br : Br} {T : Int → NI} {L : Nat → Nod} {id : Int} {ks : List Int} {s : Nat} {ps : List (Nat × Nat)} {pr : List Int} {q : KS} (hl : pr.length = ps.length) (hst : q.stay.Sublist pr) : ∀ k, k ≤ ps.length → (kidsDone br T L id ks s ps pr q k).stay.Sublist (pr.drop k)
  | 0, _ => by rw [List.drop_zero]; exact hst
  | k + 1, hk => by
    have ih := done_stay (br := br) (T := T) (L := L) (id := id) (ks := ks) (s := s) hl hst k (by omega)
    have hdc := drop_cons (pr := pr) (k := k) (by omega)
    rw [kidsDone]
    generalize kidsDone br T L id ks s ps pr q k = c at *
    rw [hdc] at ih
    by_cases hh : c.stay.head? = some (pr.getD k 0)
    · rw [kidStep_stay hh]
      cases hc : c.stay with
      | nil => rw [hc] at hh; cases hh
      | cons a t =>
        rw [hc] at ih hh
        have e : a = pr.getD k 0 := by simpa using hh
        rw [e] at ih
        exact List.cons_sublist_cons.1 ih
    · have hs : c.stay.Sublist (pr.drop (k + 1)) := by
        cases hc : c.stay with
        | nil => exact List.nil_sublist _
        | cons a t =>
          rw [hc] at ih hh
          cases ih with
          | cons _ h2 => exact h2
          | cons_cons _ h2 => exact absurd rfl hh
      by_cases hp : pr.getD k 0 = -1
      · rw [kidStep_new hh hp]; exact hs
      · rw [kidStep_move hh hp]; exact hs
theorem done_counts {br : Br} {T : Int → NI} {L : Nat → Nod} {id : Int} {ks : List Int} {s : Nat} {ps : List (Nat × Nat)} {pr : List Int} {q : KS} (hl : pr.length = ps.length) (hsn : ∀ v, v ∈ q.stay → v ≠ -1) : ∀ k, k ≤ ps.length → ∃ ins, ins + q.stay.length = k + (kidsDone br T L id ks s ps pr q k).stay.length ∧ ∀ j, kindN j (kidsDone br T L id ks s ps pr q k).pats = kindN j q.pats + partsN j br T L id ks s ps pr q k + (if j = 1 then newN pr k else 0) + (if j = 2 then ins else 0)
  | 0, _ => ⟨0, by simp [kidsDone], fun j => by
      have e : newN pr 0 = 0 := by unfold newN; simp
      simp [kidsDone, partsN, e]⟩
  | k + 1, hk => by
    obtain ⟨ins, h1, h2⟩ := done_counts (br := br) (T := T) (L := L) (id := id) (ks := ks) (s := s) hl hsn k (by omega)
    have hsub := kidsDone_sub br T L id ks s ps pr q k
    have hns := newN_succ (pr := pr) (k := k) (by omega)
    simp only [partsN, kidsDone]
    generalize hcc : kidsDone br T L id ks s ps pr q k = c at *
    by_cases hh : c.stay.head? = some (pr.getD k 0)
    · have hp : pr.getD k 0 ≠ -1 := by
        cases hc : c.stay with
        | nil => rw [hc] at hh; cases hh
        | cons a t =>
          have e : a = pr.getD k 0 := by rw [hc] at hh; simpa using hh
          rw [← e]
          exact hsn a (hsub a (by rw [hc]; simp))
      have hlen : c.stay.tail.length + 1 = c.stay.length := by
        cases hc : c.stay with
        | nil => rw [hc] at hh; cases hh
        | cons a t => simp
      have hns' : newN pr (k + 1) = newN pr k := by rw [hns, if_neg hp]; rfl
      clear hns
      rw [kidStep_stay hh]
      refine ⟨ins, by show _ = _ + c.stay.tail.length; omega, fun j => ?_⟩
      unfold partPats
      rw [if_neg hp, kindN_app, h2, hns']
      omega
    · by_cases hp : pr.getD k 0 = -1
      · rw [if_pos hp] at hns
        rw [kidStep_new hh hp]
        refine ⟨ins + 1, by show _ = _ + c.stay.length; omega, fun j => ?_⟩
        unfold partPats
        rw [if_pos hp, kindN_app, kindN_app, kindN_app, h2, hns, kindN_one, kindN_one]
        by_cases e1 : j = 1
        · subst e1; simp; omega
        · by_cases e2 : j = 2
          · subst e2; simp; omega
          · have n1 : ¬ (1 : Int) = j := fun e => e1 e.symm
            have n2 : ¬ (2 : Int) = j := fun e => e2 e.symm
            simp only [if_neg e1, if_neg e2, if_neg n1, if_neg n2]
            omega
      · have hns' : newN pr (k + 1) = newN pr k := by rw [hns, if_neg hp]; rfl
        clear hns
        rw [kidStep_move hh hp]
        refine ⟨ins + 1, by show _ = _ + c.stay.length; omega, fun j => ?_⟩
        unfold partPats
        rw [if_neg hp, kindN_app, kindN_app, h2, hns', kindN_one]
        by_cases e2 : j = 2
        · subst e2; simp; omega
        · have n2 : ¬ (2 : Int) = j := fun e => e2 e.symm
          simp only [if_neg e2, if_neg n2]
          omega
theorem rems_counts (I : Nat → Int) (l : List Int) (j : Int) : ∀ k, kindN j (remsP I l k) = if j = 3 then ((List.range k).countP fun i : Nat => !l.contains (i : Int)) else 0
  | 0 => by simp [remsP, kindN_nil]
  | k + 1 => by
    have ih := rems_counts I l j k
    rw [List.range_succ, List.countP_append]
    cases h : l.contains (k : Int) with
    | true =>
      rw [remsP_yes h, ih]
      have : [k].countP (fun i : Nat => !l.contains (i : Int)) = 0 := by simp only [List.countP_singleton, h]; rfl
      rw [this]
      rfl
    | false =>
      rw [remsP_no h, kindN_app, ih, kindN_one]
      have : [k].countP (fun i : Nat => !l.contains (i : Int)) = 1 := by simp only [List.countP_singleton, h]; rfl
      rw [this]
      by_cases e : j = 3
      · subst e; simp
      · rw [if_neg e, if_neg e, if_neg (fun e2 => e e2.symm)]
theorem kids_counts (br : Br) (T : Int → NI) (L : Nat → Nod) (id : Int) (x : NI) (s n : Nat) (last : Int) (j : Int) (pr : List Int) (ps : List (Nat × Nat)) (hps : partsOf L s n = ps) (hpr : pairsOf T L x.kids s ps = pr) :
    kindN j (bringKidsP br T L id x s n last).1 = (if j = 3 then ((List.range x.kids.length).countP fun i : Nat => !pr.contains (i : Int)) else 0) + partsN j br T L id x.kids s ps pr ⟨remsP (fun j => x.kids.getD j 0) pr x.kids.length, stayOf pr, last⟩ ps.length + (if j = 1 then newN pr ps.length else 0) + (if j = 2 then ps.length - (stayOf pr).length else 0) := by
  have hl : pr.length = ps.length := by rw [← hpr]; exact pairsOf_length ..
  have hs := done_stay (br := br) (T := T) (L := L) (id := id) (ks := x.kids) (s := s) (q := ⟨remsP (fun j => x.kids.getD j 0) pr x.kids.length, stayOf pr, last⟩) hl (stay_rise pr).2 ps.length (Nat.le_refl _)
  rw [← hl, List.drop_length] at hs
  have hs0 := List.sublist_nil.1 hs
  rw [hl] at hs0
  obtain ⟨ins, h1, h2⟩ := done_counts (br := br) (T := T) (L := L) (id := id) (ks := x.kids) (s := s) (q := ⟨remsP (fun j => x.kids.getD j 0) pr x.kids.length, stayOf pr, last⟩) hl (fun v hv => (stayOf_range hv).2) ps.length (Nat.le_refl _)
  rw [hs0] at h1
  simp only [List.length_nil, Nat.add_zero] at h1
  have e : ins = ps.length - (stayOf pr).length := by omega
  have hb : (bringKidsP br T L id x s n last).1 = (kidsDone br T L id x.kids s ps pr ⟨remsP (fun j => x.kids.getD j 0) pr x.kids.length, stayOf pr, last⟩ ps.length).pats := by
    unfold bringKidsP
    simp only [hps, hpr]
  rw [hb, h2, e, rems_counts]
end Go.Proofs.Ytobgcaemnpkbmaa
namespace Go.Proofs.Ytobgcaemnpkbmaa
open Go.RowKit
structure IsNod (R : List RN) (w : Nat × Int) (ln : Nod) : Prop where
  lt : w.1 < R.length
  d : w.2 = ln.d
  tag : (nth R w.1).tag = ln.t
  key : (nth R w.1).key = ln.k
  text : (nth R w.1).text = ln.x
  ats : (nth R w.1).ats = atsOf ln
def TellsL (R : List RN) (L : Nat → Nod) : List (Nat × Int) → Nat → Prop
  | [], _ => True
  | w :: W, s => IsNod R w (L s) ∧ TellsL R L W (s + 1)
theorem TellsL.app {R : List RN} {L : Nat → Nod} : ∀ {W V : List (Nat × Int)} {s : Nat}, TellsL R L W s → TellsL R L V (s + W.length) → TellsL R L (W ++ V) s
  | [], _, _, _, h => by simpa using h
  | w :: W, V, s, ⟨h1, h2⟩, h => ⟨h1, TellsL.app h2 (by rw [show s + 1 + W.length = s + (w :: W).length by simp; omega]; exact h)⟩
theorem walk_parts {R : List RN} {L : Nat → Nod} {s n : Nat} (F : Nat → List (Nat × Int)) : ∀ (K : List Nat) (ps : List (Nat × Nat)) (b : Nat), Tile ps b n → K.length = ps.length → (∀ k, (hk : k < K.length) → (hp : k < ps.length) → TellsL R L (F K[k]) (s + ps[k].1) ∧ (F K[k]).length = ps[k].2 - ps[k].1) → TellsL R L (K.flatMap F) (s + b) ∧ (K.flatMap F).length = n - b
  | [], [], b, ht, _, _ => by
    have e : b = n := ht
    subst e
    exact ⟨trivial, by simp⟩
  | [], _ :: _, _, _, hl, _ => by simp at hl
  | _ :: _, [], _, _, hl, _ => by simp at hl
  | k :: K, p :: ps, b, ⟨h1, h2, h3⟩, hl, h => by
    obtain ⟨g1, g2⟩ := h 0 (by simp) (by simp)
    simp only [List.getElem_cons_zero] at g1 g2
    obtain ⟨i1, i2⟩ := walk_parts F K ps p.2 h3 (by simpa using hl) fun j hj hp => by
      have := h (j + 1) (by simpa using hj) (by simpa using hp)
      simpa using this
    have hpn : p.2 ≤ n := by
      clear i1 i2 h g1 g2 hl h2 h1
      have key : ∀ (l : List (Nat × Nat)) (c : Nat), Tile l c n → c ≤ n := by
        intro l
        induction l with
        | nil => intro c hc; exact Nat.le_of_eq hc
        | cons q l ih => intro c ⟨e1, e2, e3⟩; have := ih _ e3; omega
      exact key ps p.2 h3
    rw [List.flatMap_cons]
    refine ⟨TellsL.app (by rw [← h1]; exact g1) ?_, by rw [List.length_append, g2, i2]; omega⟩
    rw [g2, show s + b + (p.2 - p.1) = s + p.2 by omega]
    exact i1
theorem tree_tells {R : List RN} (hI : Ids R) {L : Nat → Nod} : ∀ (f g a : Nat) (s n : Nat), PieceOk L s n → TreeAt R L f (idAt R a) s n → fitP R g a → TellsL R L (walkP R g a (L s).d) s ∧ (walkP R g a (L s).d).length = n
  | 0, _, _, _, _, _, h, _ => h.elim
  | f + 1, 0, _, _, _, _, _, h => h.elim
  | f + 1, g + 1, a, s, n, hpc, ⟨h1, h2, h3, h4, h5, h6, h7⟩, ⟨ha, hk⟩ => by
    have hid := idAt_lt ha
    have hni := ni_get hI ha
    rw [← hid] at hni
    have h0 : idAt R a ≠ 0 := by have := has_pos hI h1; omega
    have hks : (kidsP R (idAt R a)).map (idAt R) = (niOf R (idAt R a)).kids := by rw [ni_kids hI h1, kids_ids R h0]
    have hlen : (kidsP R (idAt R a)).length = (partsOf L s n).length := by rw [← h6, ← hks, List.length_map]
    rw [walkP]
    have hD1 : 2 ≤ n → (L (s + 1)).d = (L (s + 0)).d + 1 := fun hn => by
      have e1 := hpc.deep 1 (by omega) (by omega)
      have e2 := hpc.step 0 (by omega)
      simp only [Nat.add_zero] at e2 ⊢
      omega
    obtain ⟨w1, w2⟩ := walk_parts (R := R) (L := L) (s := s) (fun k => walkP R g k ((L s).d + 1)) (kidsP R (idAt R a)) (partsOf L s n) 1 (partsP_tile _ hpc.pos) hlen fun k hk1 hp1 => by
      have hpm : (partsOf L s n)[k] ∈ partsOf L s n := List.getElem_mem hp1
      have eg : (partsOf L s n).getD k (0, 0) = (partsOf L s n)[k] := by rw [List.getD_eq_getElem?_getD, List.getElem?_eq_getElem hp1]; rfl
      have et := h7 k hp1
      have ek : (niOf R (idAt R a)).kids.getD k 0 = idAt R (kidsP R (idAt R a))[k] := by
        rw [← hks, List.getD_eq_getElem?_getD, List.getElem?_map, List.getElem?_eq_getElem hk1]
        rfl
      rw [ek, eg] at et
      obtain ⟨g1, g2, _⟩ := hpc.part hpm
      have hd := (partsP_deep hpc.pos hD1 hpm).1
      rw [Nat.add_zero] at hd
      have := tree_tells hI f g (kidsP R (idAt R a))[k] _ _ g1 et (hk _ (List.getElem_mem hk1))
      rw [hd] at this
      exact this
    refine ⟨⟨⟨ha, rfl, ?_, ?_, ?_, ?_⟩, w1⟩, ?_⟩
    · rw [nth_lt ha]; rw [hni] at h2; exact h2
    · rw [nth_lt ha]; rw [hni] at h3; exact h3
    · rw [nth_lt ha]; rw [hni] at h4; exact h4
    · rw [nth_lt ha]; rw [hni] at h5; exact h5
    · rw [List.length_cons, w2]
      have := hpc.pos
      omega
end Go.Proofs.Ytobgcaemnpkbmaa
