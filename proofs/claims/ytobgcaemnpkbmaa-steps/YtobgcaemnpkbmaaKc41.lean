/- Ic Id Ie -/
import Derived.Test.YtobgcaemnpkbmaaKc40
namespace Go.Proofs.Ytobgcaemnpkbmaa
open Go.RowKit
theorem sorted_sub {α : Type} {lt : α → α → Prop} (irr : ∀ a, ¬ lt a a) (tr : ∀ a b c, lt a b → lt b c → lt a c) : ∀ (m l : List α), l.Pairwise lt → m.Pairwise lt → (∀ a, a ∈ l → a ∈ m) → l.Sublist m
  | [], l, _, _, h => by
    cases l with
    | nil => exact .slnil
    | cons a l => exact absurd (h a (List.mem_cons_self ..)) (by simp)
  | b :: m, [], _, _, _ => List.nil_sublist _
  | b :: m, a :: l, hl, hm, h => by
    obtain ⟨hl1, hl2⟩ := List.pairwise_cons.1 hl
    obtain ⟨hm1, hm2⟩ := List.pairwise_cons.1 hm
    rcases List.mem_cons.1 (h a (List.mem_cons_self ..)) with e | e
    · subst e
      refine .cons_cons _ (sorted_sub irr tr m l hl2 hm2 fun x hx => ?_)
      rcases List.mem_cons.1 (h x (List.mem_cons_of_mem _ hx)) with e | e
      · subst e; exact absurd (hl1 _ hx) (irr _)
      · exact e
    · refine .cons _ (sorted_sub irr tr m (a :: l) hl hm2 fun x hx => ?_)
      rcases List.mem_cons.1 (h x hx) with e2 | e2
      · subst e2
        have h1 := hm1 a e
        rcases List.mem_cons.1 hx with e3 | e3
        · subst e3; exact absurd h1 (irr _)
        · exact absurd (tr _ _ _ h1 (hl1 _ e3)) (irr _)
      · exact e2
theorem lessB_irr (a : ByteArray) : ¬ lessB a a = true := by unfold lessB; rw [less_irrefl]; simp
theorem lessB_tr (a b c : ByteArray) (h : lessB a b = true) (k : lessB b c = true) : lessB a c = true := less_trans _ _ _ h k
theorem rises_eq {l m : List (ByteArray × ByteArray)} (hl : Rises l) (hm : Rises m) (h : ∀ a, a ∈ l ↔ a ∈ m) : l = m := by
  have h1 := sorted_sub (lt := fun x y : ByteArray × ByteArray => lessB x.1 y.1 = true) (fun a => lessB_irr a.1) (fun a b c => lessB_tr a.1 b.1 c.1) m l hl hm fun a => (h a).1
  have h2 := sorted_sub (lt := fun x y : ByteArray × ByteArray => lessB x.1 y.1 = true) (fun a => lessB_irr a.1) (fun a b c => lessB_tr a.1 b.1 c.1) l m hm hl fun a => (h a).2
  exact h1.eq_of_length_le h2.length_le
theorem rises_one {l : List (ByteArray × ByteArray)} (hl : Rises l) {a b : ByteArray × ByteArray} (ha : a ∈ l) (hb : b ∈ l) (e : a.1 = b.1) : a = b := by
  obtain ⟨i, hi, rfl⟩ := List.getElem_of_mem ha
  obtain ⟨j, hj, rfl⟩ := List.getElem_of_mem hb
  rcases Nat.lt_trichotomy i j with h | h | h
  · have := List.pairwise_iff_getElem.1 hl i j hi hj h
    rw [e] at this
    exact absurd this (lessB_irr _)
  · subst h; rfl
  · have := List.pairwise_iff_getElem.1 hl j i hj hi h
    rw [e] at this
    exact absurd this (lessB_irr _)
theorem rises_names {l : List (ByteArray × ByteArray)} (hl : Rises l) : (l.map (·.1)).Pairwise (fun a b => lessB a b = true) := List.pairwise_map.2 hl
theorem rises_less {l m : List (ByteArray × ByteArray)} (hl : Rises l) (hm : Rises m) (h : ∀ a, a ∈ l → ∃ b, b ∈ m ∧ b.1 = a.1) {c : ByteArray × ByteArray} (hc : c ∈ m) (hno : ∀ a, a ∈ l → a.1 ≠ c.1) : l.length < m.length := by
  have h1 := sorted_sub lessB_irr lessB_tr (m.map (·.1)) (l.map (·.1)) (rises_names hl) (rises_names hm) (fun x hx => by
    obtain ⟨a, ha, rfl⟩ := List.mem_map.1 hx
    obtain ⟨b, hb, e⟩ := h a ha
    exact List.mem_map.2 ⟨b, hb, e⟩)
  have h2 := h1.length_le
  rw [List.length_map, List.length_map] at h2
  rcases Nat.lt_or_ge l.length m.length with h3 | h3
  · exact h3
  · exfalso
    have h4 := h1.eq_of_length_le (by rw [List.length_map, List.length_map]; exact h3)
    have h5 : c.1 ∈ m.map (·.1) := List.mem_map.2 ⟨c, hc, rfl⟩
    rw [← h4] at h5
    obtain ⟨a, ha, e⟩ := List.mem_map.1 h5
    exact hno a ha e
theorem set_mem {l : List (ByteArray × ByteArray)} (hl : Rises l) {nm vl : ByteArray} (a : ByteArray × ByteArray) : a ∈ setP l nm vl ↔ a = (nm, vl) ∨ (a ∈ l ∧ a.1 ≠ nm) := by
  have hin : (nm, vl) ∈ setP l nm vl := by rw [setP_pos hl]; simp
  constructor
  · intro h
    by_cases e : a.1 = nm
    · exact .inl (rises_one (rises_set hl) h hin e)
    · rcases setP_mem h with h1 | h1
      · exact .inr ⟨h1, e⟩
      · exact .inl h1
  · rintro (rfl | ⟨h1, h2⟩)
    · exact hin
    · obtain ⟨i, hi, rfl⟩ := List.getElem_of_mem h1
      rw [setP_pos hl]
      by_cases hp : i < posP l nm
      · refine List.mem_append_left _ (List.mem_append_left _ ?_)
        rw [List.mem_take_iff_getElem]
        exact ⟨i, by omega, rfl⟩
      · refine List.mem_append_right _ ?_
        rw [List.mem_drop_iff_getElem]
        unfold hitN
        by_cases hh : hitP l nm = true
        · rw [if_pos hh]
          have hne : i ≠ posP l nm := fun e => by
            unfold hitP at hh
            simp only [Bool.and_eq_true, decide_eq_true_eq] at hh
            rw [attAt_lt hh.1] at hh
            have := sameB_eq hh.2
            subst e
            exact h2 this
          exact ⟨i - (posP l nm + 1), by omega, by congr 1; omega⟩
        · rw [if_neg hh]
          exact ⟨i - posP l nm, by omega, by congr 1; omega⟩
theorem unset_mem {l : List (ByteArray × ByteArray)} {nm : ByteArray} (a : ByteArray × ByteArray) : a ∈ unsetP l nm ↔ a ∈ l ∧ a.1 ≠ nm := by
  unfold unsetP
  rw [List.mem_filter]
  constructor
  · rintro ⟨h1, h2⟩
    refine ⟨h1, fun e => ?_⟩
    rw [e] at h2
    simp [sameB] at h2
  · rintro ⟨h1, h2⟩
    refine ⟨h1, ?_⟩
    cases e : sameB a.1 nm with
    | false => rfl
    | true => exact absurd (sameB_eq e) h2
theorem unset_less {l : List (ByteArray × ByteArray)} {nm : ByteArray} {a : ByteArray × ByteArray} (ha : a ∈ l) (e : a.1 = nm) : (unsetP l nm).length < l.length := by
  rcases Nat.lt_or_ge (unsetP l nm).length l.length with h | h
  · exact h
  · exfalso
    have h1 : (unsetP l nm).Sublist l := List.filter_sublist
    have h2 := h1.eq_of_length_le h
    rw [← h2] at ha
    exact ((unset_mem a).1 ha).2 e
end Go.Proofs.Ytobgcaemnpkbmaa
namespace Go.Proofs.Ytobgcaemnpkbmaa
open Go.RowKit
structure Only (R R' : List RN) (c : Int) (y : NI) : Prop where
  has : ∀ i, Has R' i ↔ Has R i
  rest : ∀ i, Has R i → i ≠ c → niOf R' i = niOf R i
  at' : niOf R' c = y
  len : R'.length = R.length
theorem Only.refl {R : List RN} {c : Int} {y : NI} (h : niOf R c = y) : Only R R c y := ⟨fun _ => Iff.rfl, fun _ _ _ => rfl, h, rfl⟩
theorem Only.trans {R R1 R2 : List RN} {c : Int} {y z : NI} (h : Only R R1 c y) (k : Only R1 R2 c z) : Only R R2 c z :=
  ⟨fun i => (k.has i).trans (h.has i), fun i hi hn => (k.rest i ((h.has i).2 hi) hn).trans (h.rest i hi hn), k.at', k.len.trans h.len⟩
theorem nm_get {l : List (ByteArray × ByteArray)} {j : Nat} (h : j < l.length) : nmOf l j = l[j].1 ∧ vlOf l j = l[j].2 := by
  unfold nmOf vlOf
  rw [List.getD_eq_getElem?_getD, List.getElem?_eq_getElem h]
  exact ⟨rfl, rfl⟩
theorem nameIn_iff {nm : Nat → ByteArray} {x : ByteArray} {k : Nat} : nameIn nm x k = true ↔ ∃ j, j < k ∧ nm j = x := by
  unfold nameIn
  rw [List.any_eq_true]
  constructor
  · rintro ⟨j, hj, e⟩
    exact ⟨j, List.mem_range.1 hj, bytes_ext (by simpa using e)⟩
  · rintro ⟨j, hj, rfl⟩
    exact ⟨j, List.mem_range.2 hj, by simp⟩
theorem attrIn_iff {l : List (ByteArray × ByteArray)} {x y : ByteArray} : attrIn (nmOf l) (vlOf l) x y l.length = true ↔ (x, y) ∈ l := by
  unfold attrIn
  rw [List.any_eq_true]
  constructor
  · rintro ⟨j, hj, e⟩
    have hj := List.mem_range.1 hj
    obtain ⟨e1, e2⟩ := nm_get hj
    simp only [Bool.and_eq_true, beq_iff_eq] at e
    have h1 := bytes_ext e.1
    have h2 := bytes_ext e.2
    rw [e1] at h1
    rw [e2] at h2
    rw [h1, h2]
    exact List.getElem_mem hj
  · intro h
    obtain ⟨j, hj, e⟩ := List.getElem_of_mem h
    obtain ⟨e1, e2⟩ := nm_get hj
    refine ⟨j, List.mem_range.2 hj, ?_⟩
    rw [e1, e2, e]
    simp
theorem atsOf_mem {m : Nod} (a : ByteArray × ByteArray) : a ∈ atsOf m ↔ ∃ j, j < m.an ∧ a = (m.nm j, m.vl j) := by
  constructor
  · exact ats_mem
  · rintro ⟨j, hj, rfl⟩
    unfold atsOf
    exact List.mem_map.2 ⟨j, List.mem_range.2 hj, rfl⟩
structure AttOk (ln : Nod) : Prop where
  rise : Rises (atsOf ln)
  few : ln.an ≤ 5
  name : ∀ j, j < ln.an → nameB (ln.nm j) = true ∧ (ln.vl j).size ≤ 20
theorem AttOk.inj {ln : Nod} (h : AttOk ln) {i j : Nat} (hi : i < ln.an) (hj : j < ln.an) (e : ln.nm i = ln.nm j) : i = j := by
  have hr := h.rise
  rcases Nat.lt_trichotomy i j with h1 | h1 | h1
  · have := List.pairwise_iff_getElem.1 hr i j (by rw [atsOf_length]; exact hi) (by rw [atsOf_length]; exact hj) h1
    simp only [atsOf, List.getElem_map, List.getElem_range] at this
    rw [e] at this
    exact absurd this (lessB_irr _)
  · exact h1
  · have := List.pairwise_iff_getElem.1 hr j i (by rw [atsOf_length]; exact hj) (by rw [atsOf_length]; exact hi) h1
    simp only [atsOf, List.getElem_map, List.getElem_range] at this
    rw [e] at this
    exact absurd this (lessB_irr _)
theorem run_uns {R : List RN} {last : Int} (h : DocOk R last) (hF : Fine R) {c : Int} (hc : Has R c) {x : NI} (hx : niOf R c = x) (htag : x.tag.toList.isEmpty = false) (hr : Rises x.ats) (nm2 : Nat → ByteArray) (n2 : Nat) :
    ∀ k, k ≤ x.ats.length → ∃ R' A, RunL R last (unsP c (nmOf x.ats) nm2 n2 k) R' last ∧ Only R R' c { x with ats := A } ∧ Rises A ∧ ∀ a, a ∈ A ↔ a ∈ x.ats ∧ ∀ j, j < k → nmOf x.ats j = a.1 → nameIn nm2 a.1 n2 = true
  | 0, _ => ⟨R, x.ats, .nil .., .refl hx, hr, fun a => ⟨fun h => ⟨h, fun j hj => absurd hj (Nat.not_lt_zero _)⟩, fun h => h.1⟩⟩
  | k + 1, hk => by
    obtain ⟨R', A, h1, h2, h3, h4⟩ := run_uns h hF hc hx htag hr nm2 n2 k (by omega)
    have hkl : k < x.ats.length := by omega
    have ek := (nm_get hkl).1
    cases hq : nameIn nm2 (nmOf x.ats k) n2 with
    | true =>
      refine ⟨R', A, by rw [unsP_yes hq]; exact h1, h2, h3, fun a => ?_⟩
      rw [h4]
      refine ⟨fun ⟨g1, g2⟩ => ⟨g1, fun j hj e => ?_⟩, fun ⟨g1, g2⟩ => ⟨g1, fun j hj => g2 j (by omega)⟩⟩
      by_cases e2 : j = k
      · subst e2; rw [← e]; exact hq
      · exact g2 j (by omega) e
    | false =>
      obtain ⟨hd', hF'⟩ := h1.ok h hF
      have hc' := (h2.has c).2 hc
      have hmem : x.ats[k] ∈ A := (h4 _).2 ⟨List.getElem_mem hkl, fun j hj e => by
        have := rises_one hr (List.getElem_mem (show j < x.ats.length by omega)) (List.getElem_mem hkl) (by rw [← (nm_get (show j < x.ats.length by omega)).1]; exact e)
        have hlt := List.pairwise_iff_getElem.1 hr j k (by omega) hkl hj
        rw [this] at hlt
        exact absurd hlt (lessB_irr _)⟩
      have hname : nameB (nmOf x.ats k) = true := by
        obtain ⟨n, hn, e⟩ := hc
        have hm := niOf_mem h.ids hn
        rw [e, hx] at hm
        have : x.ats[k] ∈ n.ats := by have h5 : x.ats = n.ats := by rw [hm]
                                      rw [← h5]; exact List.getElem_mem hkl
        rw [ek]
        exact (hF n hn _ this).1
      obtain ⟨f1, f2, f3, f4, f5, f6⟩ := eff_unset hd' hc' hname (by rw [h2.at']; exact htag) (by rw [h2.at']; exact unset_less hmem ek.symm)
      rw [h2.at'] at f4
      refine ⟨_, unsetP A (nmOf x.ats k), by rw [unsP_no hq]; exact h1.app (by have h7 := RunL.one f1; rw [f5] at h7; exact h7), h2.trans ⟨f2, f3, f4, f6⟩, rises_erase h3, fun a => ?_⟩
      rw [unset_mem, h4]
      refine ⟨fun ⟨⟨g1, g2⟩, g3⟩ => ⟨g1, fun j hj e => ?_⟩, fun ⟨g1, g2⟩ => ⟨⟨g1, fun j hj => g2 j (by omega)⟩, fun e => ?_⟩⟩
      · by_cases e2 : j = k
        · subst e2; exact absurd e.symm g3
        · exact g2 j (by omega) e
      · have := g2 k (by omega) e.symm
        rw [e, hq] at this
        cases this
theorem run_sets {R : List RN} {last : Int} (h : DocOk R last) (hF : Fine R) {c : Int} (hc : Has R c) {y : NI} (hy : niOf R c = y) (htag : y.tag.toList.isEmpty = false) {xa : List (ByteArray × ByteArray)} (hxa : Rises xa) {ln : Nod} (ho : AttOk ln) (hr : Rises y.ats) (hm : ∀ a, a ∈ y.ats ↔ a ∈ xa ∧ nameIn ln.nm a.1 ln.an = true) :
    ∀ k, k ≤ ln.an → ∃ R' A, RunL R last (setsP c (nmOf xa) (vlOf xa) xa.length ln.nm ln.vl k) R' last ∧ Only R R' c { y with ats := A } ∧ Rises A ∧ ∀ a, a ∈ A ↔ ∃ j, j < ln.an ∧ a.1 = ln.nm j ∧ ((j < k ∧ a.2 = ln.vl j) ∨ (k ≤ j ∧ a ∈ xa))
  | 0, _ => ⟨R, y.ats, .nil .., .refl hy, hr, fun a => by
      rw [hm, nameIn_iff]
      constructor
      · rintro ⟨g1, j, hj, e⟩
        exact ⟨j, hj, e.symm, .inr ⟨Nat.zero_le _, g1⟩⟩
      · rintro ⟨j, hj, e, ⟨g, _⟩ | ⟨_, g⟩⟩
        · omega
        · exact ⟨g, j, hj, e.symm⟩⟩
  | k + 1, hk => by
    obtain ⟨R', A, h1, h2, h3, h4⟩ := run_sets h hF hc hy htag hxa ho hr hm k (by omega)
    have hkl : k < ln.an := by omega
    cases hq : attrIn (nmOf xa) (vlOf xa) (ln.nm k) (ln.vl k) xa.length with
    | true =>
      have hin := attrIn_iff.1 hq
      refine ⟨R', A, by rw [setsP_yes hq]; exact h1, h2, h3, fun a => ?_⟩
      rw [h4]
      constructor
      · rintro ⟨j, hj, e, ⟨g1, g2⟩ | ⟨g1, g2⟩⟩
        · exact ⟨j, hj, e, .inl ⟨by omega, g2⟩⟩
        · by_cases e2 : j = k
          · subst e2
            have := rises_one hxa g2 hin e
            exact ⟨j, hj, e, .inl ⟨by omega, by rw [this]⟩⟩
          · exact ⟨j, hj, e, .inr ⟨by omega, g2⟩⟩
      · rintro ⟨j, hj, e, ⟨g1, g2⟩ | ⟨g1, g2⟩⟩
        · by_cases e2 : j = k
          · subst e2
            refine ⟨j, hj, e, .inr ⟨Nat.le_refl _, ?_⟩⟩
            obtain ⟨a1, a2⟩ := a
            simp only at e g2
            subst e g2
            exact hin
          · exact ⟨j, hj, e, .inl ⟨by omega, g2⟩⟩
        · exact ⟨j, hj, e, .inr ⟨by omega, g2⟩⟩
    | false =>
      obtain ⟨hd', hF'⟩ := h1.ok h hF
      have hc' := (h2.has c).2 hc
      obtain ⟨hn1, hn2⟩ := ho.name k hkl
      have hroom : (unsetP A (ln.nm k)).length < A.length ∨ A.length < 5 := by
        by_cases hh : ∃ b, b ∈ A ∧ b.1 = ln.nm k
        · obtain ⟨b, hb, e⟩ := hh
          exact .inl (unset_less hb e)
        · right
          have := rises_less h3 ho.rise (fun a ha => by
            obtain ⟨j, hj, e, _⟩ := (h4 a).1 ha
            exact ⟨(ln.nm j, ln.vl j), (atsOf_mem _).2 ⟨j, hj, rfl⟩, e.symm⟩) (c := (ln.nm k, ln.vl k)) ((atsOf_mem _).2 ⟨k, hkl, rfl⟩) (fun a ha e => hh ⟨a, ha, e⟩)
          rw [atsOf_length] at this
          have := ho.few
          omega
      obtain ⟨f1, f2, f3, f4, f5, f6⟩ := eff_set hd' hc' hn1 (by rw [h2.at']; exact htag) hn2 (by rw [h2.at']; exact hroom)
      rw [h2.at'] at f4
      refine ⟨_, setP A (ln.nm k) (ln.vl k), by rw [setsP_no hq]; exact h1.app (by have h7 := RunL.one f1; rw [f5] at h7; exact h7), h2.trans ⟨f2, f3, f4, f6⟩, rises_set h3, fun a => ?_⟩
      rw [set_mem h3, h4]
      constructor
      · rintro (rfl | ⟨⟨j, hj, e, g⟩, hne⟩)
        · exact ⟨k, hkl, rfl, .inl ⟨by omega, rfl⟩⟩
        · have hjk : j ≠ k := fun e2 => by subst e2; exact hne e
          rcases g with ⟨g1, g2⟩ | ⟨g1, g2⟩
          · exact ⟨j, hj, e, .inl ⟨by omega, g2⟩⟩
          · exact ⟨j, hj, e, .inr ⟨by omega, g2⟩⟩
      · rintro ⟨j, hj, e, g⟩
        by_cases hjk : j = k
        · subst hjk
          rcases g with ⟨g1, g2⟩ | ⟨g1, g2⟩
          · left
            obtain ⟨a1, a2⟩ := a
            simp only at e g2
            rw [e, g2]
          · omega
        · right
          refine ⟨⟨j, hj, e, ?_⟩, fun e2 => hjk (ho.inj hj hkl (by rw [← e]; exact e2))⟩
          rcases g with ⟨g1, g2⟩ | ⟨g1, g2⟩
          · exact .inl ⟨by omega, g2⟩
          · exact .inr ⟨by omega, g2⟩
theorem run_attrs {R : List RN} {last : Int} (h : DocOk R last) (hF : Fine R) {c : Int} (hc : Has R c) {x : NI} (hx : niOf R c = x) (htag : x.tag.toList.isEmpty = false) (hr : Rises x.ats) {ln : Nod} (ho : AttOk ln) :
    ∃ R', RunL R last (attrsP c x ln) R' last ∧ Only R R' c { x with ats := atsOf ln } := by
  obtain ⟨R1, A, h1, h2, h3, h4⟩ := run_uns h hF hc hx htag hr ln.nm ln.an x.ats.length (Nat.le_refl _)
  obtain ⟨hd', hF'⟩ := h1.ok h hF
  have hm : ∀ a, a ∈ A ↔ a ∈ x.ats ∧ nameIn ln.nm a.1 ln.an = true := fun a => by
    rw [h4]
    refine ⟨fun ⟨g1, g2⟩ => ⟨g1, ?_⟩, fun ⟨g1, g2⟩ => ⟨g1, fun _ _ _ => g2⟩⟩
    obtain ⟨j, hj, rfl⟩ := List.getElem_of_mem g1
    exact g2 j hj (nm_get hj).1
  obtain ⟨R2, B, k1, k2, k3, k4⟩ := run_sets hd' hF' ((h2.has c).2 hc) h2.at' htag hr ho h3 hm ln.an (Nat.le_refl _)
  have e : B = atsOf ln := rises_eq k3 ho.rise fun a => by
    rw [k4, atsOf_mem]
    constructor
    · rintro ⟨j, hj, e, ⟨_, g⟩ | ⟨g, _⟩⟩
      · refine ⟨j, hj, ?_⟩
        obtain ⟨a1, a2⟩ := a
        simp only at e g
        rw [e, g]
      · omega
    · rintro ⟨j, hj, rfl⟩
      exact ⟨j, hj, rfl, .inl ⟨hj, rfl⟩⟩
  subst e
  refine ⟨R2, ?_, h2.trans k2⟩
  unfold attrsP
  exact h1.app k1
end Go.Proofs.Ytobgcaemnpkbmaa
namespace Go.Proofs.Ytobgcaemnpkbmaa
open Go.RowKit
theorem Dsc.trans {T : Int → NI} {i j k : Int} (h : Dsc T i j) (k1 : Dsc T j k) : Dsc T i k := by
  induction h with
  | self => exact k1
  | step h1 _ ih => exact .step h1 (ih k1)
theorem Dsc.snoc {T : Int → NI} {i j k : Int} (h : Dsc T i j) (hk : k ∈ (T j).kids) : Dsc T i k := h.trans (.step hk (.self _))
theorem Dsc.last {T : Int → NI} {i j : Int} (h : Dsc T i j) : j = i ∨ ∃ p, Dsc T i p ∧ j ∈ (T p).kids := by
  induction h with
  | self => exact .inl rfl
  | @step i k j h1 h2 ih =>
    rcases ih with e | ⟨p, hp, hj⟩
    · subst e; exact .inr ⟨i, .self _, h1⟩
    · exact .inr ⟨p, .step h1 hp, hj⟩
theorem Dsc.keep {T T' : Int → NI} {i j : Int} (h : Dsc T i j) (hk : ∀ p, Dsc T i p → T' p = T p) : Dsc T' i j := by
  induction h with
  | self => exact .self _
  | @step i k j h1 _ ih =>
    refine .step (k := k) (by rw [hk i (.self _)]; exact h1) (ih fun p hp => hk p (.step h1 hp))
theorem Dsc.back {T T' : Int → NI} {i j : Int} (h : Dsc T' i j) (hk : ∀ p, Dsc T i p → T' p = T p) : Dsc T i j := by
  induction h with
  | self => exact .self _
  | @step i k j h1 _ ih =>
    have h2 : k ∈ (T i).kids := by rw [← hk i (.self _)]; exact h1
    exact .step h2 (ih fun p hp => hk p (.step h2 hp))
theorem kid_node {R : List RN} (hI : Ids R) {i k : Int} (hi : Has R i) (hk : k ∈ (niOf R i).kids) : ∃ n, n ∈ R ∧ n.par = i ∧ n.id = k := by
  rw [ni_kids hI hi] at hk
  exact kidIds_mem.1 hk
theorem kid_has {R : List RN} (hI : Ids R) {i k : Int} (hi : Has R i) (hk : k ∈ (niOf R i).kids) : Has R k := by
  obtain ⟨n, hn, _, e⟩ := kid_node hI hi hk
  exact ⟨n, hn, e⟩
theorem kid_one {R : List RN} (hI : Ids R) {i i' k : Int} (hi : Has R i) (hi' : Has R i') (hk : k ∈ (niOf R i).kids) (hk' : k ∈ (niOf R i').kids) : i = i' := by
  obtain ⟨n, hn, e1, e2⟩ := kid_node hI hi hk
  obtain ⟨m, hm, e3, e4⟩ := kid_node hI hi' hk'
  have := ids_eq hI hn hm (by rw [e2, e4])
  rw [← e1, ← e3, this]
theorem dsc_has {R : List RN} (hI : Ids R) {i j : Int} (hi : Has R i) (h : Dsc (niOf R) i j) : Has R j := by
  induction h with
  | self => exact hi
  | step h1 _ ih => exact ih (kid_has hI hi h1)
theorem kid_deep {R : List RN} {rk : Int → Nat} (hI : Ids R) (hU : Up R rk) {i k : Int} (hi : Has R i) (hk : k ∈ (niOf R i).kids) : rk i < rk k := by
  obtain ⟨n, hn, e1, e2⟩ := kid_node hI hi hk
  have h0 := has_pos hI hi
  have := hU.rank n hn (by omega)
  rw [e1, e2] at this
  exact this
theorem dsc_rank {R : List RN} {rk : Int → Nat} (hI : Ids R) (hU : Up R rk) {i j : Int} (hi : Has R i) (h : Dsc (niOf R) i j) : rk i ≤ rk j := by
  induction h with
  | self => exact Nat.le_refl _
  | step h1 _ ih =>
    have := kid_deep hI hU hi h1
    have := ih (kid_has hI hi h1)
    omega
theorem dsc_comp {R : List RN} {rk : Int → Nat} (hI : Ids R) (hU : Up R rk) {i i' : Int} (hi : Has R i) (hi' : Has R i') : ∀ (r : Nat) (j : Int), rk j ≤ r → Dsc (niOf R) i j → Dsc (niOf R) i' j → Dsc (niOf R) i i' ∨ Dsc (niOf R) i' i
  | r, j, hr, h, h' => by
    rcases h.last with e | ⟨p, hp, hj⟩
    · subst e; exact .inr h'
    · rcases h'.last with e | ⟨p', hp', hj'⟩
      · subst e; exact .inl h
      · have hP := dsc_has hI hi hp
        have hP' := dsc_has hI hi' hp'
        have e := kid_one hI hP hP' hj hj'
        subst e
        have hlt := kid_deep hI hU hP hj
        match r with
        | 0 => omega
        | r + 1 => exact dsc_comp hI hU hi hi' r p (by omega) hp hp'
theorem dsc_apart {R : List RN} {last : Int} (h : DocOk R last) {i c c' j : Int} (hi : Has R i) (hc : c ∈ (niOf R i).kids) (hc' : c' ∈ (niOf R i).kids) (hne : c ≠ c') (h1 : Dsc (niOf R) c j) (h2 : Dsc (niOf R) c' j) : False := by
  obtain ⟨rk, hU⟩ := h.up
  have hI := h.ids
  have key : ∀ a b, a ∈ (niOf R i).kids → b ∈ (niOf R i).kids → a ≠ b → Dsc (niOf R) a b → False := fun a b ha hb hab hd => by
    have hA := kid_has hI hi ha
    rcases hd.last with e | ⟨p, hp, hbp⟩
    · exact hab e.symm
    · have e := kid_one hI (dsc_has hI hA hp) hi hbp hb
      subst e
      have := dsc_rank hI hU hA hp
      have := kid_deep hI hU hi ha
      omega
  rcases dsc_comp hI hU (kid_has hI hi hc) (kid_has hI hi hc') (rk j) j (Nat.le_refl _) h1 h2 with e | e
  · exact key c c' hc hc' hne e
  · exact key c' c hc' hc (fun e => hne e.symm) e
theorem dsc_not {R : List RN} {last : Int} (h : DocOk R last) {i c : Int} (hi : Has R i) (hc : c ∈ (niOf R i).kids) : ¬ Dsc (niOf R) c i := fun hd => by
  obtain ⟨rk, hU⟩ := h.up
  have := dsc_rank h.ids hU (kid_has h.ids hi hc) hd
  have := kid_deep h.ids hU hi hc
  omega
theorem within_dsc {R : List RN} {last : Int} (h : DocOk R last) {c : Int} (hc : c ≠ 0) : ∀ (m : Nat) (x : Int), Has R x → upN R m x = c → Dsc (niOf R) c x
  | 0, x, _, e => by
    have e : x = c := e
    subst e
    exact .self _
  | m + 1, x, hx, e => by
    have hI := h.ids
    obtain ⟨rk, hU⟩ := h.up
    have hpos := has_pos hI hx
    obtain ⟨k, hk, hki, hka⟩ := has_at hI hx
    have e1 : upP R x = R[k].par := by
      unfold upP parOf
      rw [if_neg (by omega), hka, Int.toNat_natCast, parAt_lt hk]
    rw [upN, e1] at e
    rcases hU.par R[k] (List.getElem_mem hk) with h0 | ⟨p, hp, hpi⟩
    · rw [h0, upN_zero] at e
      exact absurd e.symm hc
    · have hP : Has R R[k].par := ⟨p, hp, hpi⟩
      refine (within_dsc h hc m R[k].par hP e).snoc ?_
      rw [ni_kids hI hP]
      exact kidIds_mem.2 ⟨R[k], List.getElem_mem hk, rfl, hki⟩
theorem not_within {R : List RN} {last : Int} (h : DocOk R last) {i c : Int} (hi : Has R i) (hc : Has R c) (hn : ¬ Dsc (niOf R) c i) : ¬ WithinP R i c := by
  rintro ⟨m, e⟩
  exact hn (within_dsc h (by have := has_pos h.ids hc; omega) m i hi e)
end Go.Proofs.Ytobgcaemnpkbmaa
