/- Id Ie If Ig -/
import Derived.Test.YtobgcaemnpkbmaaMd37
namespace Go.Proofs.Ytobgcaemnpkbmaa
open Go.RowKit
structure Only (R R' : List RN) (c : Int) (y : NI) : Prop where
  has : ∀ i, Has R' i ↔ Has R i
  rest : ∀ i, Has R i → i ≠ c → niOf R' i = niOf R i
  at' : niOf R' c = y
  len : R'.length = R.length
theorem Only.refl {R : List RN} {c : Int} {y : NI} (h : niOf R c = y) : Only R R c y := ⟨fun _ => Iff.rfl, fun _ _ _ => rfl, h, rfl⟩
theorem Only.trans {R R1 R2 : List RN} {c : Int} {y z : NI} (h : Only R R1 c y) (k : Only R1 R2 c z) : Only R R2 c z :=
  ⟨fun i => (k.has i).trans (h.has i), fun i hi hn => (k.rest i ((h.has i).2 hi) hn).trans (h.rest i hi hn), k.at', k.len.trans h.len⟩
theorem nm_get {l : List (ByteArray × ByteArray)} {j : Nat} (h : j < l.length) : nmOf l j = l[j].1 ∧ vlOf l j = l[j].2 := by
  unfold nmOf vlOf
  rw [List.getD_eq_getElem?_getD, List.getElem?_eq_getElem h]
  exact ⟨rfl, rfl⟩
theorem nameIn_iff {nm : Nat → ByteArray} {x : ByteArray} {k : Nat} : nameIn nm x k = true ↔ ∃ j, j < k ∧ nm j = x := by
  unfold nameIn
  rw [List.any_eq_true]
  constructor
  · rintro ⟨j, hj, e⟩
    exact ⟨j, List.mem_range.1 hj, bytes_ext (by simpa using e)⟩
  · rintro ⟨j, hj, rfl⟩
    exact ⟨j, List.mem_range.2 hj, by simp⟩
theorem attrIn_iff {l : List (ByteArray × ByteArray)} {x y : ByteArray} : attrIn (nmOf l) (vlOf l) x y l.length = true ↔ (x, y) ∈ l := by
  unfold attrIn
  rw [List.any_eq_true]
  constructor
  · rintro ⟨j, hj, e⟩
    have hj := List.mem_range.1 hj
    obtain ⟨e1, e2⟩ := nm_get hj
    simp only [Bool.and_eq_true, beq_iff_eq] at e
    have h1 := bytes_ext e.1
    have h2 := bytes_ext e.2
    rw [e1] at h1
    rw [e2] at h2
    rw [h1, h2]
    exact List.getElem_mem hj
  · intro h
    obtain ⟨j, hj, e⟩ := List.getElem_of_mem h
    obtain ⟨e1, e2⟩ := nm_get hj
    refine ⟨j, List.mem_range.2 hj, ?_⟩
    rw [e1, e2, e]
    simp
theorem atsOf_mem {m : Nod} (a : ByteArray × ByteArray) : a ∈ atsOf m ↔ ∃ j, j < m.an ∧ a = (m.nm j, m.vl j) := by
  constructor
  · exact ats_mem
  · rintro ⟨j, hj, rfl⟩
    unfold atsOf
    exact List.mem_map.2 ⟨j, List.mem_range.2 hj, rfl⟩
structure AttOk (ln : Nod) : Prop where
  rise : Rises (atsOf ln)
  few : ln.an ≤ 5
  name : ∀ j, j < ln.an → nameB (ln.nm j) = true ∧ (ln.vl j).size ≤ 20
theorem AttOk.inj {ln : Nod} (h : AttOk ln) {i j : Nat} (hi : i < ln.an) (hj : j < ln.an) (e : ln.nm i = ln.nm j) : i = j := by
  have hr := h.rise
  rcases Nat.lt_trichotomy i j with h1 | h1 | h1
  · have := List.pairwise_iff_getElem.1 hr i j (by rw [atsOf_length]; exact hi) (by rw [atsOf_length]; exact hj) h1
    simp only [atsOf, List.getElem_map, List.getElem_range] at this
    rw [e] at this
    exact absurd this (lessB_irr _)
  · exact h1
  · have := List.pairwise_iff_getElem.1 hr j i (by rw [atsOf_length]; exact hj) (by rw [atsOf_length]; exact hi) h1
    simp only [atsOf, List.getElem_map, List.getElem_range] at this
    rw [e] at this
    exact absurd this (lessB_irr _)
theorem run_uns {R : List RN} {last : Int} (h : DocOk R last) (hF : Fine R) {c : Int} (hc : Has R c) {x : NI} (hx : niOf R c = x) (htag : x.tag.toList.isEmpty = false) (hr : Rises x.ats) (nm2 : Nat → ByteArray) (n2 : Nat) :
    ∀ k, k ≤ x.ats.length → ∃ R' A, RunL R last (unsP c (nmOf x.ats) nm2 n2 k) R' last ∧ Only R R' c { x with ats := A } ∧ Rises A ∧ ∀ a, a ∈ A ↔ a ∈ x.ats ∧ ∀ j, j < k → nmOf x.ats j = a.1 → nameIn nm2 a.1 n2 = true
  | 0, _ => ⟨R, x.ats, .nil .., .refl hx, hr, fun a => ⟨fun h => ⟨h, fun j hj => absurd hj (Nat.not_lt_zero _)⟩, fun h => h.1⟩⟩
  | k + 1, hk => by
    obtain ⟨R', A, h1, h2, h3, h4⟩ := run_uns h hF hc hx htag hr nm2 n2 k (by omega)
    have hkl : k < x.ats.length := by omega
    have ek := (nm_get hkl).1
    cases hq : nameIn nm2 (nmOf x.ats k) n2 with
    | true =>
      refine ⟨R', A, by rw [unsP_yes hq]; exact h1, h2, h3, fun a => ?_⟩
      rw [h4]
      refine ⟨fun ⟨g1, g2⟩ => ⟨g1, fun j hj e => ?_⟩, fun ⟨g1, g2⟩ => ⟨g1, fun j hj => g2 j (by omega)⟩⟩
      by_cases e2 : j = k
      · subst e2; rw [← e]; exact hq
      · exact g2 j (by omega) e
    | false =>
      obtain ⟨hd', hF'⟩ := h1.ok h hF
      have hc' := (h2.has c).2 hc
      have hmem : x.ats[k] ∈ A := (h4 _).2 ⟨List.getElem_mem hkl, fun j hj e => by
        have := rises_one hr (List.getElem_mem (show j < x.ats.length by omega)) (List.getElem_mem hkl) (by rw [← (nm_get (show j < x.ats.length by omega)).1]; exact e)
        have hlt := List.pairwise_iff_getElem.1 hr j k (by omega) hkl hj
        rw [this] at hlt
        exact absurd hlt (lessB_irr _)⟩
      have hname : nameB (nmOf x.ats k) = true := by
        obtain ⟨n, hn, e⟩ := hc
        have hm := niOf_mem h.ids hn
        rw [e, hx] at hm
        have : x.ats[k] ∈ n.ats := by have h5 : x.ats = n.ats := by rw [hm]
                                      rw [← h5]; exact List.getElem_mem hkl
        rw [ek]
        exact (hF n hn _ this).1
      obtain ⟨f1, f2, f3, f4, f5, f6⟩ := eff_unset hd' hc' hname (by rw [h2.at']; exact htag) (by rw [h2.at']; exact unset_less hmem ek.symm)
      rw [h2.at'] at f4
      refine ⟨_, unsetP A (nmOf x.ats k), by rw [unsP_no hq]; exact h1.app (by have h7 := RunL.one f1; rw [f5] at h7; exact h7), h2.trans ⟨f2, f3, f4, f6⟩, rises_erase h3, fun a => ?_⟩
      rw [unset_mem, h4]
      refine ⟨fun ⟨⟨g1, g2⟩, g3⟩ => ⟨g1, fun j hj e => ?_⟩, fun ⟨g1, g2⟩ => ⟨⟨g1, fun j hj => g2 j (by omega)⟩, fun e => ?_⟩⟩
      · by_cases e2 : j = k
        · subst e2; exact absurd e.symm g3
        · exact g2 j (by omega) e
      · have := g2 k (by omega) e.symm
        rw [e, hq] at this
        cases this
theorem run_sets {R : List RN} {last : Int} (h : DocOk R last) (hF : Fine R) {c : Int} (hc : Has R c) {y : NI} (hy : niOf R c = y) (htag : y.tag.toList.isEmpty = false) {xa : List (ByteArray × ByteArray)} (hxa : Rises xa) {ln : Nod} (ho : AttOk ln) (hr : Rises y.ats) (hm : ∀ a, a ∈ y.ats ↔ a ∈ xa ∧ nameIn ln.nm a.1 ln.an = true) :
    ∀ k, k ≤ ln.an → ∃ R' A, RunL R last (setsP c (nmOf xa) (vlOf xa) xa.length ln.nm ln.vl k) R' last ∧ Only R R' c { y with ats := A } ∧ Rises A ∧ ∀ a, a ∈ A ↔ ∃ j, j < ln.an ∧ a.1 = ln.nm j ∧ ((j < k ∧ a.2 = ln.vl j) ∨ (k ≤ j ∧ a ∈ xa))
  | 0, _ => ⟨R, y.ats, .nil .., .refl hy, hr, fun a => by
      rw [hm, nameIn_iff]
      constructor
      · rintro ⟨g1, j, hj, e⟩
        exact ⟨j, hj, e.symm, .inr ⟨Nat.zero_le _, g1⟩⟩
      · rintro ⟨j, hj, e, ⟨g, _⟩ | ⟨_, g⟩⟩
        · omega
        · exact ⟨g, j, hj, e.symm⟩⟩
  | k + 1, hk => by
    obtain ⟨R', A, h1, h2, h3, h4⟩ := run_sets h hF hc hy htag hxa ho hr hm k (by omega)
    have hkl : k < ln.an := by omega
    cases hq : attrIn (nmOf xa) (vlOf xa) (ln.nm k) (ln.vl k) xa.length with
    | true =>
      have hin := attrIn_iff.1 hq
      refine ⟨R', A, by rw [setsP_yes hq]; exact h1, h2, h3, fun a => ?_⟩
      rw [h4]
      constructor
      · rintro ⟨j, hj, e, ⟨g1, g2⟩ | ⟨g1, g2⟩⟩
        · exact ⟨j, hj, e, .inl ⟨by omega, g2⟩⟩
        · by_cases e2 : j = k
          · subst e2
            have := rises_one hxa g2 hin e
            exact ⟨j, hj, e, .inl ⟨by omega, by rw [this]⟩⟩
          · exact ⟨j, hj, e, .inr ⟨by omega, g2⟩⟩
      · rintro ⟨j, hj, e, ⟨g1, g2⟩ | ⟨g1, g2⟩⟩
        · by_cases e2 : j = k
          · subst e2
            refine ⟨j, hj, e, .inr ⟨Nat.le_refl _, ?_⟩⟩
            obtain ⟨a1, a2⟩ := a
            simp only at e g2
            subst e g2
            exact hin
          · exact ⟨j, hj, e, .inl ⟨by omega, g2⟩⟩
        · exact ⟨j, hj, e, .inr ⟨by omega, g2⟩⟩
    | false =>
      obtain ⟨hd', hF'⟩ := h1.ok h hF
      have hc' := (h2.has c).2 hc
      obtain ⟨hn1, hn2⟩ := ho.name k hkl
      have hroom : (unsetP A (ln.nm k)).length < A.length ∨ A.length < 5 := by
        by_cases hh : ∃ b, b ∈ A ∧ b.1 = ln.nm k
        · obtain ⟨b, hb, e⟩ := hh
          exact .inl (unset_less hb e)
        · right
          have := rises_less h3 ho.rise (fun a ha => by
            obtain ⟨j, hj, e, _⟩ := (h4 a).1 ha
            exact ⟨(ln.nm j, ln.vl j), (atsOf_mem _).2 ⟨j, hj, rfl⟩, e.symm⟩) (c := (ln.nm k, ln.vl k)) ((atsOf_mem _).2 ⟨k, hkl, rfl⟩) (fun a ha e => hh ⟨a, ha, e⟩)
          rw [atsOf_length] at this
          have := ho.few
          omega
      obtain ⟨f1, f2, f3, f4, f5, f6⟩ := eff_set hd' hc' hn1 (by rw [h2.at']; exact htag) hn2 (by rw [h2.at']; exact hroom)
      rw [h2.at'] at f4
      refine ⟨_, setP A (ln.nm k) (ln.vl k), by rw [setsP_no hq]; exact h1.app (by have h7 := RunL.one f1; rw [f5] at h7; exact h7), h2.trans ⟨f2, f3, f4, f6⟩, rises_set h3, fun a => ?_⟩
      rw [set_mem h3, h4]
      constructor
      · rintro (rfl | ⟨⟨j, hj, e, g⟩, hne⟩)
        · exact ⟨k, hkl, rfl, .inl ⟨by omega, rfl⟩⟩
        · have hjk : j ≠ k := fun e2 => by subst e2; exact hne e
          rcases g with ⟨g1, g2⟩ | ⟨g1, g2⟩
          · exact ⟨j, hj, e, .inl ⟨by omega, g2⟩⟩
          · exact ⟨j, hj, e, .inr ⟨by omega, g2⟩⟩
      · rintro ⟨j, hj, e, g⟩
        by_cases hjk : j = k
        · subst hjk
          rcases g with ⟨g1, g2⟩ | ⟨g1, g2⟩
          · left
            obtain ⟨a1, a2⟩ := a
            simp only at e g2
            rw [e, g2]
          · omega
        · right
          refine ⟨⟨j, hj, e, ?_⟩, fun e2 => hjk (ho.inj hj hkl (by rw [← e]; exact e2))⟩
          rcases g with ⟨g1, g2⟩ | ⟨g1, g2⟩
          · exact .inl ⟨by omega, g2⟩
          · exact .inr ⟨by omega, g2⟩
theorem run_attrs {R : List RN} {last : Int} (h : DocOk R last) (hF : Fine R) {c : Int} (hc : Has R c) {x : NI} (hx : niOf R c = x) (htag : x.tag.toList.isEmpty = false) (hr : Rises x.ats) {ln : Nod} (ho : AttOk ln) :
    ∃ R', RunL R last (attrsP c x ln) R' last ∧ Only R R' c { x with ats := atsOf ln } := by
  obtain ⟨R1, A, h1, h2, h3, h4⟩ := run_uns h hF hc hx htag hr ln.nm ln.an x.ats.length (Nat.le_refl _)
  obtain ⟨hd', hF'⟩ := h1.ok h hF
  have hm : ∀ a, a ∈ A ↔ a ∈ x.ats ∧ nameIn ln.nm a.1 ln.an = true := fun a => by
    rw [h4]
    refine ⟨fun ⟨g1, g2⟩ => ⟨g1, ?_⟩, fun ⟨g1, g2⟩ => ⟨g1, fun _ _ _ => g2⟩⟩
    obtain ⟨j, hj, rfl⟩ := List.getElem_of_mem g1
    exact g2 j hj (nm_get hj).1
  obtain ⟨R2, B, k1, k2, k3, k4⟩ := run_sets hd' hF' ((h2.has c).2 hc) h2.at' htag hr ho h3 hm ln.an (Nat.le_refl _)
  have e : B = atsOf ln := rises_eq k3 ho.rise fun a => by
    rw [k4, atsOf_mem]
    constructor
    · rintro ⟨j, hj, e, ⟨_, g⟩ | ⟨g, _⟩⟩
      · refine ⟨j, hj, ?_⟩
        obtain ⟨a1, a2⟩ := a
        simp only at e g
        rw [e, g]
      · omega
    · rintro ⟨j, hj, rfl⟩
      exact ⟨j, hj, rfl, .inl ⟨hj, rfl⟩⟩
  subst e
  refine ⟨R2, ?_, h2.trans k2⟩
  unfold attrsP
  exact h1.app k1
end Go.Proofs.Ytobgcaemnpkbmaa
namespace Go.Proofs.Ytobgcaemnpkbmaa
open Go.RowKit
theorem Dsc.trans {T : Int → NI} {i j k : Int} (h : Dsc T i j) (k1 : Dsc T j k) : Dsc T i k := by
  induction h with
  | self => exact k1
  | step h1 _ ih => exact .step h1 (ih k1)
theorem Dsc.snoc {T : Int → NI} {i j k : Int} (h : Dsc T i j) (hk : k ∈ (T j).kids) : Dsc T i k := h.trans (.step hk (.self _))
theorem Dsc.last {T : Int → NI} {i j : Int} (h : Dsc T i j) : j = i ∨ ∃ p, Dsc T i p ∧ j ∈ (T p).kids := by
  induction h with
  | self => exact .inl rfl
  | @step i k j h1 h2 ih =>
    rcases ih with e | ⟨p, hp, hj⟩
    · subst e; exact .inr ⟨i, .self _, h1⟩
    · exact .inr ⟨p, .step h1 hp, hj⟩
theorem Dsc.keep {T T' : Int → NI} {i j : Int} (h : Dsc T i j) (hk : ∀ p, Dsc T i p → T' p = T p) : Dsc T' i j := by
  induction h with
  | self => exact .self _
  | @step i k j h1 _ ih =>
    refine .step (k := k) (by rw [hk i (.self _)]; exact h1) (ih fun p hp => hk p (.step h1 hp))
theorem Dsc.back {T T' : Int → NI} {i j : Int} (h : Dsc T' i j) (hk : ∀ p, Dsc T i p → T' p = T p) : Dsc T i j := by
  induction h with
  | self => exact .self _
  | @step i k j h1 _ ih =>
    have h2 : k ∈ (T i).kids := by rw [← hk i (.self _)]; exact h1
    exact .step h2 (ih fun p hp => hk p (.step h2 hp))
theorem kid_node {R : List RN} (hI : Ids R) {i k : Int} (hi : Has R i) (hk : k ∈ (niOf R i).kids) : ∃ n, n ∈ R ∧ n.par = i ∧ n.id = k := by
  rw [ni_kids hI hi] at hk
  exact kidIds_mem.1 hk
theorem kid_has {R : List RN} (hI : Ids R) {i k : Int} (hi : Has R i) (hk : k ∈ (niOf R i).kids) : Has R k := by
  obtain ⟨n, hn, _, e⟩ := kid_node hI hi hk
  exact ⟨n, hn, e⟩
theorem kid_one {R : List RN} (hI : Ids R) {i i' k : Int} (hi : Has R i) (hi' : Has R i') (hk : k ∈ (niOf R i).kids) (hk' : k ∈ (niOf R i').kids) : i = i' := by
  obtain ⟨n, hn, e1, e2⟩ := kid_node hI hi hk
  obtain ⟨m, hm, e3, e4⟩ := kid_node hI hi' hk'
  have := ids_eq hI hn hm (by rw [e2, e4])
  rw [← e1, ← e3, this]
theorem dsc_has {R : List RN} (hI : Ids R) {i j : Int} (hi : Has R i) (h : Dsc (niOf R) i j) : Has R j := by
  induction h with
  | self => exact hi
  | step h1 _ ih => exact ih (kid_has hI hi h1)
theorem kid_deep {R : List RN} {rk : Int → Nat} (hI : Ids R) (hU : Up R rk) {i k : Int} (hi : Has R i) (hk : k ∈ (niOf R i).kids) : rk i < rk k := by
  obtain ⟨n, hn, e1, e2⟩ := kid_node hI hi hk
  have h0 := has_pos hI hi
  have := hU.rank n hn (by omega)
  rw [e1, e2] at this
  exact this
theorem dsc_rank {R : List RN} {rk : Int → Nat} (hI : Ids R) (hU : Up R rk) {i j : Int} (hi : Has R i) (h : Dsc (niOf R) i j) : rk i ≤ rk j := by
  induction h with
  | self => exact Nat.le_refl _
  | step h1 _ ih =>
    have := kid_deep hI hU hi h1
    have := ih (kid_has hI hi h1)
    omega
theorem dsc_comp {R : List RN} {rk : Int → Nat} (hI : Ids R) (hU : Up R rk) {i i' : Int} (hi : Has R i) (hi' : Has R i') : ∀ (r : Nat) (j : Int), rk j ≤ r → Dsc (niOf R) i j → Dsc (niOf R) i' j → Dsc (niOf R) i i' ∨ Dsc (niOf R) i' i
  | r, j, hr, h, h' => by
    rcases h.last with e | ⟨p, hp, hj⟩
    · subst e; exact .inr h'
    · rcases h'.last with e | ⟨p', hp', hj'⟩
      · subst e; exact .inl h
      · have hP := dsc_has hI hi hp
        have hP' := dsc_has hI hi' hp'
        have e := kid_one hI hP hP' hj hj'
        subst e
        have hlt := kid_deep hI hU hP hj
        match r with
        | 0 => omega
        | r + 1 => exact dsc_comp hI hU hi hi' r p (by omega) hp hp'
theorem dsc_apart {R : List RN} {last : Int} (h : DocOk R last) {i c c' j : Int} (hi : Has R i) (hc : c ∈ (niOf R i).kids) (hc' : c' ∈ (niOf R i).kids) (hne : c ≠ c') (h1 : Dsc (niOf R) c j) (h2 : Dsc (niOf R) c' j) : False := by
  obtain ⟨rk, hU⟩ := h.up
  have hI := h.ids
  have key : ∀ a b, a ∈ (niOf R i).kids → b ∈ (niOf R i).kids → a ≠ b → Dsc (niOf R) a b → False := fun a b ha hb hab hd => by
    have hA := kid_has hI hi ha
    rcases hd.last with e | ⟨p, hp, hbp⟩
    · exact hab e.symm
    · have e := kid_one hI (dsc_has hI hA hp) hi hbp hb
      subst e
      have := dsc_rank hI hU hA hp
      have := kid_deep hI hU hi ha
      omega
  rcases dsc_comp hI hU (kid_has hI hi hc) (kid_has hI hi hc') (rk j) j (Nat.le_refl _) h1 h2 with e | e
  · exact key c c' hc hc' hne e
  · exact key c' c hc' hc (fun e => hne e.symm) e
theorem dsc_not {R : List RN} {last : Int} (h : DocOk R last) {i c : Int} (hi : Has R i) (hc : c ∈ (niOf R i).kids) : ¬ Dsc (niOf R) c i := fun hd => by
  obtain ⟨rk, hU⟩ := h.up
  have := dsc_rank h.ids hU (kid_has h.ids hi hc) hd
  have := kid_deep h.ids hU hi hc
  omega
theorem within_dsc {R : List RN} {last : Int} (h : DocOk R last) {c : Int} (hc : c ≠ 0) : ∀ (m : Nat) (x : Int), Has R x → upN R m x = c → Dsc (niOf R) c x
  | 0, x, _, e => by
    have e : x = c := e
    subst e
    exact .self _
  | m + 1, x, hx, e => by
    have hI := h.ids
    obtain ⟨rk, hU⟩ := h.up
    have hpos := has_pos hI hx
    obtain ⟨k, hk, hki, hka⟩ := has_at hI hx
    have e1 : upP R x = R[k].par := by
      unfold upP parOf
      rw [if_neg (by omega), hka, Int.toNat_natCast, parAt_lt hk]
    rw [upN, e1] at e
    rcases hU.par R[k] (List.getElem_mem hk) with h0 | ⟨p, hp, hpi⟩
    · rw [h0, upN_zero] at e
      exact absurd e.symm hc
    · have hP : Has R R[k].par := ⟨p, hp, hpi⟩
      refine (within_dsc h hc m R[k].par hP e).snoc ?_
      rw [ni_kids hI hP]
      exact kidIds_mem.2 ⟨R[k], List.getElem_mem hk, rfl, hki⟩
theorem not_within {R : List RN} {last : Int} (h : DocOk R last) {i c : Int} (hi : Has R i) (hc : Has R c) (hn : ¬ Dsc (niOf R) c i) : ¬ WithinP R i c := by
  rintro ⟨m, e⟩
  exact hn (within_dsc h (by have := has_pos h.ids hc; omega) m i hi e)
end Go.Proofs.Ytobgcaemnpkbmaa
namespace Go.Proofs.Ytobgcaemnpkbmaa
open Go.RowKit
def Tile : List (Nat × Nat) → Nat → Nat → Prop
  | [], a, b => a = b
  | p :: l, a, b => p.1 = a ∧ p.1 < p.2 ∧ Tile l p.2 b
theorem Tile.snoc : ∀ {l : List (Nat × Nat)} {a b c : Nat}, Tile l a b → b < c → Tile (l ++ [(b, c)]) a c
  | [], a, b, c, h, hb => by
    have e : a = b := h
    subst e
    exact ⟨rfl, hb, rfl⟩
  | p :: l, a, b, c, ⟨h1, h2, h3⟩, hb => ⟨h1, h2, Tile.snoc h3 hb⟩
theorem partsTo_tile (D : Nat → Int) (n : Nat) : ∀ k, Tile (partsTo D n k).1 1 (partsTo D n k).2
  | 0 => rfl
  | k + 1 => by
    have ih := partsTo_tile D n k
    have hs := partsTo_start D n k
    cases h : cutB D n (k + 2) with
    | true => rw [partsTo_yes h]; exact ih.snoc (by omega)
    | false => rw [partsTo_no h]; exact ih
theorem partsP_tile (D : Nat → Int) {n : Nat} (hn : 1 ≤ n) : Tile (partsP D n) 1 n := by
  have h := partsTo_tile D n (n - 1)
  unfold partsP
  have e : (partsTo D n (n - 1)).2 = n := by
    match n, hn with
    | 1, _ => rfl
    | k + 2, _ =>
      have hc : cutB D (k + 2) (k + 2) = true := by unfold cutB; simp
      show (partsTo D (k + 2) (k + 1)).2 = k + 2
      rw [partsTo_yes hc]
  rw [e] at h
  exact h
theorem partsTo_deep (D : Nat → Int) (n : Nat) (h1 : 2 ≤ n → D 1 = D 0 + 1) : ∀ k, k + 1 ≤ n → (∀ p, p ∈ (partsTo D n k).1 → D p.1 = D 0 + 1 ∧ ∀ i, p.1 < i → i < p.2 → D i ≠ D 0 + 1) ∧ ((partsTo D n k).2 < n → D (partsTo D n k).2 = D 0 + 1) ∧ ∀ i, (partsTo D n k).2 < i → i ≤ k + 1 → i < n → D i ≠ D 0 + 1
  | 0, hk => ⟨fun p hp => by simp [partsTo] at hp, fun h => h1 (by simp [partsTo] at h; omega), fun i hi1 hi2 => by simp [partsTo] at hi1; omega⟩
  | k + 1, hk => by
    obtain ⟨g1, g2, g3⟩ := partsTo_deep D n h1 k (by omega)
    have hs := partsTo_start D n k
    cases h : cutB D n (k + 2) with
    | true =>
      rw [partsTo_yes h]
      refine ⟨fun p hp => ?_, fun hlt => ?_, fun i hi1 hi2 => by simp only at hi1; omega⟩
      · rcases List.mem_append.1 hp with hp | hp
        · exact g1 p hp
        · have e := List.mem_singleton.1 hp
          subst e
          refine ⟨g2 (by omega), fun i hi1 hi2 => g3 i hi1 (by simp only at hi2; omega) (by simp only at hi2; omega)⟩
      · unfold cutB at h
        simp only [Bool.or_eq_true, beq_iff_eq] at h
        exact h.resolve_left (by simp only at hlt; omega)
    | false =>
      rw [partsTo_no h]
      refine ⟨g1, g2, fun i hi1 hi2 hi3 => ?_⟩
      by_cases e : i = k + 2
      · subst e
        unfold cutB at h
        simp only [Bool.or_eq_false_iff, beq_eq_false_iff_ne] at h
        exact h.2
      · exact g3 i hi1 (by omega) hi3
theorem partsP_deep {D : Nat → Int} {n : Nat} (hn : 1 ≤ n) (h1 : 2 ≤ n → D 1 = D 0 + 1) {p : Nat × Nat} (hp : p ∈ partsP D n) : D p.1 = D 0 + 1 ∧ ∀ i, p.1 < i → i < p.2 → D i ≠ D 0 + 1 := (partsTo_deep D n h1 (n - 1) (by omega)).1 p hp
structure PieceOk (L : Nat → Nod) (s n : Nat) : Prop where
  pos : 1 ≤ n
  deep : ∀ i, 0 < i → i < n → (L s).d < (L (s + i)).d
  step : ∀ i, i + 1 < n → (L (s + i + 1)).d ≤ (L (s + i)).d + 1
  node : ∀ i, i < n → elB (L (s + i)) = true ∨ txB (L (s + i)) = true
  par : ∀ i, i + 1 < n → (L (s + i)).d < (L (s + i + 1)).d → elB (L (s + i)) = true
theorem PieceOk.part {L : Nat → Nod} {s n : Nat} (h : PieceOk L s n) {a : Nat × Nat} (ha : a ∈ partsOf L s n) : PieceOk L (s + a.1) (a.2 - a.1) ∧ (1 ≤ a.1 ∧ a.1 < a.2 ∧ a.2 ≤ n) ∧ elB (L s) = true := by
  obtain ⟨h1, h2, h3⟩ := partsP_span h.pos ha
  have hD1 : 2 ≤ n → (L (s + 1)).d = (L (s + 0)).d + 1 := fun hn => by
    have e1 := h.deep 1 (by omega) (by omega)
    have e2 := h.step 0 (by omega)
    simp only [Nat.add_zero] at e2 ⊢
    omega
  obtain ⟨g1, g2⟩ := partsP_deep h.pos hD1 ha
  rw [Nat.add_zero] at g1 g2
  refine ⟨⟨by omega, fun i hi1 hi2 => ?_, fun i hi => ?_, fun i hi => ?_, fun i hi hlt => ?_⟩, ⟨h1, h2, h3⟩, ?_⟩
  · have e1 := g2 (a.1 + i) (by omega) (by omega)
    have e2 := h.deep (a.1 + i) (by omega) (by omega)
    rw [Nat.add_assoc]
    omega
  · have := h.step (a.1 + i) (by omega)
    rw [show s + (a.1 + i) = s + a.1 + i by omega] at this
    exact this
  · have := h.node (a.1 + i) (by omega)
    rw [← Nat.add_assoc] at this
    exact this
  · have := h.par (a.1 + i) (by omega)
    rw [show s + (a.1 + i) = s + a.1 + i by omega] at this
    exact this hlt
  · have e1 := h.deep 1 (by omega) (by omega)
    have := h.par 0 (by omega)
    rw [Nat.add_zero] at this
    exact this e1
def TreeAt (R : List RN) (L : Nat → Nod) : Nat → Int → Nat → Nat → Prop
  | 0, _, _, _ => False
  | f + 1, id, s, n => Has R id ∧ (niOf R id).tag = (L s).t ∧ (niOf R id).key = (L s).k ∧ (niOf R id).text = (L s).x ∧ (niOf R id).ats = atsOf (L s) ∧ (niOf R id).kids.length = (partsOf L s n).length ∧ ∀ k, k < (partsOf L s n).length → TreeAt R L f ((niOf R id).kids.getD k 0) (s + ((partsOf L s n).getD k (0, 0)).1) (((partsOf L s n).getD k (0, 0)).2 - ((partsOf L s n).getD k (0, 0)).1)
theorem TreeAt.keep {R R' : List RN} {L : Nat → Nod} : ∀ {f : Nat} {id : Int} {s n : Nat}, TreeAt R L f id s n → (∀ j, Dsc (niOf R) id j → Has R' j ∧ niOf R' j = niOf R j) → TreeAt R' L f id s n
  | 0, _, _, _, h, _ => h
  | f + 1, id, s, n, ⟨h1, h2, h3, h4, h5, h6, h7⟩, hk => by
    obtain ⟨k1, k2⟩ := hk id (.self _)
    unfold TreeAt
    rw [k2]
    refine ⟨k1, h2, h3, h4, h5, h6, fun k hlt => (h7 k hlt).keep fun j hj => hk j (.step ?_ hj)⟩
    rw [List.getD_eq_getElem?_getD, List.getElem?_eq_getElem (by omega)]
    exact List.getElem_mem _
theorem TreeAt.more {R : List RN} {L : Nat → Nod} : ∀ {f g : Nat} {id : Int} {s n : Nat}, TreeAt R L f id s n → f ≤ g → TreeAt R L g id s n
  | 0, _, _, _, _, h, _ => h.elim
  | f + 1, 0, _, _, _, _, hg => by omega
  | f + 1, g + 1, id, s, n, ⟨h1, h2, h3, h4, h5, h6, h7⟩, hg => ⟨h1, h2, h3, h4, h5, h6, fun k hlt => (h7 k hlt).more (by omega)⟩
def KeepAt (R : List RN) (T : Int → NI) (L : Nat → Nod) : Nat → Int → List Int → Nat → Nat → Prop
  | 0, _, _, _, _ => True
  | f + 1, id, ks, s, n => ∀ k, k < (partsOf L s n).length → (pairsOf T L ks s (partsOf L s n)).getD k 0 ≠ -1 → (niOf R id).kids.getD k 0 = ks.getD ((pairsOf T L ks s (partsOf L s n)).getD k 0).toNat 0 ∧ (niOf R id).kids.getD k 0 ∈ (niOf R id).kids ∧ KeepAt R T L f ((niOf R id).kids.getD k 0) (T ((niOf R id).kids.getD k 0)).kids (s + ((partsOf L s n).getD k (0, 0)).1) (((partsOf L s n).getD k (0, 0)).2 - ((partsOf L s n).getD k (0, 0)).1)
theorem KeepAt.keep {R R' : List RN} {T : Int → NI} {L : Nat → Nod} : ∀ {f : Nat} {id : Int} {ks : List Int} {s n : Nat}, KeepAt R T L f id ks s n → (∀ j, Dsc (niOf R) id j → niOf R' j = niOf R j) → KeepAt R' T L f id ks s n
  | 0, _, _, _, _, _, _ => trivial
  | f + 1, id, ks, s, n, h, hk => fun k h1 h2 => by
    obtain ⟨g1, g2, g3⟩ := h k h1 h2
    rw [hk id (.self _)]
    exact ⟨g1, g2, g3.keep fun j hj => hk j (.step g2 hj)⟩
structure NiFine (x : NI) : Prop where
  rise : Rises x.ats
  text : x.tag.toList.isEmpty = false → x.text = ⟨#[]⟩
  ats : x.tag.toList.isEmpty = true → x.ats = []
theorem att_ok {m : Nod} (h : elB m = true ∨ txB m = true) : AttOk m := ⟨ats_rise h, (el_attr h).1, fun j hj => ⟨(att_name ((el_attr h).2 j hj).1).1, text_size (att_name ((el_attr h).2 j hj).1).2.1⟩⟩
theorem el_tag {m : Nod} (h : elB m = true) : m.t.toList.isEmpty = false ∧ m.x = ⟨#[]⟩ := by
  unfold elB at h
  simp only [Bool.and_eq_true] at h
  refine ⟨?_, bytes_ext ?_⟩
  · cases e : m.t.toList.isEmpty with
    | false => rfl
    | true => rw [name_nonempty e] at h; cases h.1.1.1
  · rw [List.isEmpty_iff.1 h.1.1.2, ByteArray.toList_eq]
theorem tx_tag {m : Nod} (h : txB m = true) : m.t.toList.isEmpty = true ∧ m.x.size ≤ 20 ∧ m.an = 0 := by
  unfold txB at h
  simp only [Bool.and_eq_true, decide_eq_true_eq] at h
  exact ⟨h.1.1.1, text_size h.2, h.1.2⟩
theorem run_dress {R : List RN} {last : Int} (h : DocOk R last) (hF : Fine R) {c : Int} (hc : Has R c) {x : NI} (hx : niOf R c = x) (hn : NiFine x) {ln : Nod} (ho : elB ln = true ∨ txB ln = true) (htag : x.tag = ln.t) :
    ∃ R', RunL R last (textP c x ln ++ attrsP c x ln) R' last ∧ Only R R' c { x with text := ln.x, ats := atsOf ln } := by
  rcases ho with he | ht
  · obtain ⟨e1, e2⟩ := el_tag he
    have e3 : x.tag.toList.isEmpty = false := by rw [htag]; exact e1
    have e4 : x.text = ln.x := by rw [hn.text e3, e2]
    obtain ⟨R', h1, h2⟩ := run_attrs h hF hc hx e3 hn.rise (att_ok (.inl he))
    refine ⟨R', ?_, ?_⟩
    · rw [textP_yes (by rw [e4]; simp), List.nil_append]
      exact h1
    · rw [← e4]
      exact h2
  · obtain ⟨e1, e2, e3⟩ := tx_tag ht
    have e4 : x.tag.toList.isEmpty = true := by rw [htag]; exact e1
    have e5 := hn.ats e4
    have e6 : atsOf ln = [] := by unfold atsOf; rw [e3]; rfl
    have e7 : attrsP c x ln = [] := by unfold attrsP; rw [e5, e3]; rfl
    rw [e7, e6, List.append_nil]
    cases hq : (x.text.toList == ln.x.toList) with
    | true =>
      have e8 : x.text = ln.x := bytes_ext (by simpa using hq)
      refine ⟨R, ?_, .refl ?_⟩
      · rw [textP_yes hq]; exact .nil ..
      · rw [hx, ← e8, ← e5]
    | false =>
      obtain ⟨f1, f2, f3, f4, f5, f6⟩ := eff_write h hc (by rw [hx]; exact e4) e2
      refine ⟨_, ?_, f2, f3, ?_, f6⟩
      · rw [textP_no hq]
        have h7 := RunL.one f1
        rw [f5] at h7
        exact h7
      · rw [f4, hx, ← e5]
end Go.Proofs.Ytobgcaemnpkbmaa
namespace Go.Proofs.Ytobgcaemnpkbmaa
open Go.RowKit
theorem places_key (A : Nat → ByteArray × Int) (x : LK) : ∀ n v, placesTo A n x = some v → ∃ p : Nat, v = (p : Int) ∧ p < n ∧ x = ⟨(A p).1, (A p).2, cntP A (A p) p⟩
  | 0, v, h => by cases h
  | n + 1, v, h => by
    rw [placesTo] at h
    unfold putF at h
    split at h
    · next e =>
      cases h
      exact ⟨n, rfl, by omega, e⟩
    · obtain ⟨p, h1, h2, h3⟩ := places_key A x n v h
      exact ⟨p, h1, by omega, h3⟩
theorem cntP_mono (A : Nat → ByteArray × Int) (x : ByteArray × Int) (i : Nat) : ∀ k, cntP A x i ≤ cntP A x (i + k)
  | 0 => Nat.le_refl _
  | k + 1 => by
    have := cntP_mono A x i k
    rw [← Nat.add_assoc, cntP]
    omega
theorem cntP_less {A : Nat → ByteArray × Int} {x : ByteArray × Int} {i j : Nat} (h : i < j) (e : A i = x) : cntP A x i < cntP A x j := by
  have h1 := cntP_mono A x (i + 1) (j - (i + 1))
  rw [show i + 1 + (j - (i + 1)) = j by omega, cntP, if_pos e] at h1
  omega
theorem pair_key {A : Nat → ByteArray × Int} {n : Nat} {B : Nat → ByteArray × Int} {j : Nat} {v : Int} (h : pairAt A n B j = v) (hv : v ≠ -1) : ∃ p : Nat, v = (p : Int) ∧ p < n ∧ B j = A p ∧ cntP B (B j) j = cntP A (A p) p := by
  unfold pairAt at h
  cases e : placesTo A n ⟨(B j).1, (B j).2, cntP B (B j) j⟩ with
  | none => rw [e] at h; exact absurd h.symm hv
  | some w =>
    rw [e] at h
    obtain ⟨p, h1, h2, h3⟩ := places_key A _ n w e
    have h4 : w = v := h
    rw [LK.mk.injEq] at h3
    refine ⟨p, by rw [← h4]; exact h1, h2, Prod.ext h3.1 h3.2.1, ?_⟩
    have := h3.2.2
    omega
theorem pair_inj {A : Nat → ByteArray × Int} {n : Nat} {B : Nat → ByteArray × Int} {i j : Nat} {v : Int} (hi : pairAt A n B i = v) (hj : pairAt A n B j = v) (hv : v ≠ -1) : i = j := by
  obtain ⟨p, h1, h2, h3, h4⟩ := pair_key hi hv
  obtain ⟨q, g1, g2, g3, g4⟩ := pair_key hj hv
  have e : p = q := by omega
  subst e
  have e2 : B i = B j := by rw [h3, g3]
  rcases Nat.lt_trichotomy i j with h | h | h
  · have := cntP_less (A := B) h e2
    rw [← e2] at g4
    rw [e2] at h4
    have h5 := cntP_less (A := B) (x := B j) h e2
    rw [e2] at g4
    omega
  · exact h
  · have h5 := cntP_less (A := B) (x := B i) h e2.symm
    rw [e2] at h4
    rw [e2] at h5
    omega
theorem rows_fall (v : Nat → Int) : ∀ n c, c ∈ rowsTo v n → c ≠ [] ∧ c.Pairwise fun x y => y < x ∧ v y < v x
  | 0, c, h => by simp [rowsTo] at h
  | i + 1, c, h => by
    have ih := rows_fall v i
    have hlt := rowsTo_lt v i
    have hnew : newC (rowsTo v i) (endAt v (rowsTo v i) i) i ≠ [] ∧ (newC (rowsTo v i) (endAt v (rowsTo v i) i) i).Pairwise fun x y => y < x ∧ v y < v x := by
      refine ⟨by unfold newC; simp, ?_⟩
      unfold newC
      split
      · simp
      · next hne =>
        have hle := endAt_le v (rowsTo v i) i
        have hlt2 : endAt v (rowsTo v i) i - 1 < (rowsTo v i).length := by omega
        have hmem : (rowsTo v i).getD (endAt v (rowsTo v i) i - 1) [] ∈ rowsTo v i := by
          rw [List.getD_eq_getElem?_getD, List.getElem?_eq_getElem hlt2]; exact List.getElem_mem _
        have hhead : v (headN ((rowsTo v i).getD (endAt v (rowsTo v i) i - 1) [])) < v i := by
          have h1 : ∀ c, c ∈ (rowsTo v i).takeWhile (fun c => decide (v (headN c) < v i)) → v (headN c) < v i := fun c hc => by
            have := List.all_eq_true.1 (List.all_takeWhile (l := rowsTo v i) (p := fun c => decide (v (headN c) < v i))) c hc
            simpa using this
          refine h1 _ ?_
          rw [List.getD_eq_getElem?_getD, List.getElem?_eq_getElem hlt2]
          have h2 : endAt v (rowsTo v i) i - 1 < ((rowsTo v i).takeWhile (fun c => decide (v (headN c) < v i))).length := by
            show _ < endAt v (rowsTo v i) i
            omega
          have h3 : ((rowsTo v i).takeWhile (fun c => decide (v (headN c) < v i)))[endAt v (rowsTo v i) i - 1] = (rowsTo v i)[endAt v (rowsTo v i) i - 1] := (List.takeWhile_prefix _).getElem h2
          show (rowsTo v i)[endAt v (rowsTo v i) i - 1] ∈ _
          rw [← h3]
          exact List.getElem_mem _
        obtain ⟨g1, g2⟩ := ih _ hmem
        have g3 := hlt _ hmem
        generalize (rowsTo v i).getD (endAt v (rowsTo v i) i - 1) [] = d at *
        rw [List.pairwise_cons]
        refine ⟨fun y hy => ⟨g3 y hy, ?_⟩, g2⟩
        cases d with
        | nil => simp at hy
        | cons a d =>
          have ha : headN (a :: d) = a := rfl
          rw [ha] at hhead
          rcases List.mem_cons.1 hy with e | e
          · rw [e]; exact hhead
          · have := ((List.pairwise_cons.1 g2).1 y e).2
            omega
    rw [rowsTo] at h
    unfold rowStep at h
    split at h
    · rcases List.mem_or_eq_of_mem_set h with h | h
      · exact ih c h
      · rw [h]; exact hnew
    · rcases List.mem_append.1 h with h | h
      · exact ih c h
      · rw [List.mem_singleton.1 h]; exact hnew
theorem row_chain (v : Nat → Int) (n : Nat) : ∃ c : List Nat, rowP v n = c.map v ∧ c.Pairwise (fun x y => x < y ∧ v x < v y) ∧ ∀ x, x ∈ c → x < n := by
  refine ⟨((rowsTo v n).getLastD []).reverse, ?_, ?_, ?_⟩
  · unfold rowP; rw [List.map_reverse]
  · rw [List.pairwise_reverse]
    cases e : rowsTo v n with
    | nil => simp
    | cons a l => exact (rows_fall v n _ (by rw [← e]; exact getLastD_mem' _ _ (by rw [e]; simp))).2
  · intro x hx
    rw [List.mem_reverse] at hx
    cases e : rowsTo v n with
    | nil => rw [e] at hx; simp at hx
    | cons a l => exact rowsTo_lt v n _ (getLastD_mem' _ _ (by rw [e]; simp)) x hx
theorem stay_rise (pr : List Int) : (stayOf pr).Pairwise (fun a b => a < b) ∧ (stayOf pr).Sublist pr := by
  obtain ⟨c, h1, h2, h3⟩ := row_chain (fun j => (pr.filter keepB).getD j 0) (pr.filter keepB).length
  unfold stayOf
  rw [h1]
  refine ⟨List.pairwise_map.2 (h2.imp fun h => h.2), ?_⟩
  have h4 : c.Sublist (List.range (pr.filter keepB).length) := sorted_sub (lt := fun a b : Nat => a < b) (fun a => Nat.lt_irrefl a) (fun a b c => Nat.lt_trans) _ c (h2.imp fun h => h.1) List.pairwise_lt_range fun a ha => List.mem_range.2 (h3 a ha)
  have h5 := h4.map (fun j => (pr.filter keepB).getD j 0)
  have h6 : (List.range (pr.filter keepB).length).map (fun j => (pr.filter keepB).getD j 0) = pr.filter keepB := by
    refine List.ext_getElem (by simp) fun i h7 h8 => ?_
    simp [h8]
  rw [h6] at h5
  exact h5.trans List.filter_sublist
end Go.Proofs.Ytobgcaemnpkbmaa
