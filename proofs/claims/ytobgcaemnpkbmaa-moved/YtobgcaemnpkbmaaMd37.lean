/- Ia Ib Ic -/
import Derived.Test.YtobgcaemnpkbmaaMd36
namespace Go.Proofs.Ytobgcaemnpkbmaa
open Go.RowKit
def Has (R : List RN) (i : Int) : Prop := ∃ n, n ∈ R ∧ n.id = i
theorem has_get {R : List RN} {i : Int} (h : Has R i) : ∃ j, ∃ hj : j < R.length, R[j].id = i := by
  obtain ⟨n, hn, e⟩ := h
  obtain ⟨j, hj, rfl⟩ := List.getElem_of_mem hn
  exact ⟨j, hj, e⟩
theorem has_at {R : List RN} (hI : Ids R) {i : Int} (h : Has R i) : ∃ k, ∃ hk : k < R.length, R[k].id = i ∧ atP R i = (k : Int) := by
  rcases at_two hI i with e | ⟨e, _⟩
  · exact e
  · obtain ⟨n, hn, e2⟩ := h
    exact absurd e2 (e n hn)
theorem ni_get {R : List RN} (hI : Ids R) {k : Nat} (hk : k < R.length) : niOf R R[k].id = ⟨R[k].key, R[k].tag, R[k].text, R[k].ats, kidIds R R[k].id⟩ := niOf_mem hI (List.getElem_mem hk)
theorem ids_eq {R : List RN} (hI : Ids R) {m n : RN} (hm : m ∈ R) (hn : n ∈ R) (e : m.id = n.id) : m = n := by
  obtain ⟨i, hi, rfl⟩ := List.getElem_of_mem hm
  obtain ⟨j, hj, rfl⟩ := List.getElem_of_mem hn
  have := hI.inj i j hi hj e
  subst this
  rfl
theorem put_has {R : List RN} {k : Nat} {n : RN} (hk : k < R.length) (h1 : n.id = R[k].id) (i : Int) : Has (R.set k n) i ↔ Has R i := by
  constructor
  · rintro ⟨m, hm, e⟩
    rcases List.mem_or_eq_of_mem_set hm with h | h
    · exact ⟨m, h, e⟩
    · subst h; exact ⟨R[k], List.getElem_mem hk, by rw [← h1]; exact e⟩
  · intro h
    obtain ⟨j, hj, e⟩ := has_get h
    by_cases hjk : j = k
    · subst hjk; exact ⟨n, List.mem_set hj n, by rw [h1]; exact e⟩
    · refine ⟨R[j], ?_, e⟩
      have : (R.set k n)[j]'(by rw [List.length_set]; exact hj) = R[j] := List.getElem_set_ne (fun e => hjk e.symm) _
      rw [← this]
      exact List.getElem_mem _
theorem put_same {R : List RN} (hI : Ids R) {k : Nat} {n : RN} (hk : k < R.length) (h1 : n.id = R[k].id) (h2 : n.par = R[k].par) : niOf (R.set k n) R[k].id = ⟨n.key, n.tag, n.text, n.ats, kidIds R R[k].id⟩ := by
  have h := niOf_mem (set_ids hI hk h1) (List.mem_set hk n)
  rw [h1, kids_put hk h1 h2] at h
  exact h
theorem put_other {R : List RN} (hI : Ids R) {k : Nat} {n : RN} (hk : k < R.length) (h1 : n.id = R[k].id) (h2 : n.par = R[k].par) {i : Int} (hi : Has R i) (hne : i ≠ R[k].id) : niOf (R.set k n) i = niOf R i := by
  obtain ⟨j, hj, rfl⟩ := has_get hi
  have hjk : j ≠ k := fun e => by subst e; exact hne rfl
  have e : (R.set k n)[j]'(by rw [List.length_set]; exact hj) = R[j] := List.getElem_set_ne (fun e => hjk e.symm) _
  have hm : R[j] ∈ R.set k n := by rw [← e]; exact List.getElem_mem _
  rw [niOf_mem (set_ids hI hk h1) hm, kids_put hk h1 h2, ni_get hI hj]
theorem more_has (R : List RN) (n : RN) (i : Int) : Has (R ++ [n]) i ↔ Has R i ∨ i = n.id := by
  constructor
  · rintro ⟨m, hm, e⟩
    rcases List.mem_append.1 hm with h | h
    · exact .inl ⟨m, h, e⟩
    · rw [List.mem_singleton.1 h] at e; exact .inr e.symm
  · rintro (⟨m, hm, e⟩ | rfl)
    · exact ⟨m, List.mem_append_left _ hm, e⟩
    · exact ⟨n, List.mem_append_right _ (List.mem_singleton.2 rfl), rfl⟩
theorem has_pos {R : List RN} (hI : Ids R) {i : Int} (h : Has R i) : 0 < i := by
  obtain ⟨n, hn, rfl⟩ := h
  exact hI.pos n hn
theorem more_old {R : List RN} {n : RN} (hI2 : Ids (R ++ [n])) (hI : Ids R) (h0 : n.par = 0) {i : Int} (hi : Has R i) : niOf (R ++ [n]) i = niOf R i := by
  have hp := has_pos hI hi
  obtain ⟨m, hm, rfl⟩ := hi
  rw [niOf_mem hI2 (List.mem_append_left _ hm), niOf_mem hI hm, kidIds_append, kidIds_one, if_neg (by omega), List.append_nil]
theorem kids_none {R : List RN} {last : Int} (h : DocOk R last) {q : Int} (hq : q ≠ 0) (hno : ¬ Has R q) : kidIds R q = [] := by
  cases e : kidIds R q with
  | nil => rfl
  | cons c l =>
    obtain ⟨n, hn, h1, _⟩ := kidIds_mem.1 (show c ∈ kidIds R q by rw [e]; exact List.mem_cons_self ..)
    obtain ⟨rk, hU⟩ := h.up
    rcases hU.par n hn with h2 | ⟨m, hm, h2⟩
    · omega
    · exact absurd ⟨m, hm, by rw [h2, h1]⟩ hno
theorem more_new {R : List RN} {last : Int} {n : RN} (h : DocOk R last) (hI2 : Ids (R ++ [n])) (h0 : n.par = 0) (hid : n.id = last + 1) : niOf (R ++ [n]) n.id = ⟨n.key, n.tag, n.text, n.ats, []⟩ := by
  have hl := h.last_pos
  have hno : ¬ Has R n.id := by
    rintro ⟨m, hm, e⟩
    have := h.top m hm
    omega
  rw [niOf_mem hI2 (List.mem_append_right _ (List.mem_singleton.2 rfl)), kidIds_append, kidIds_one, if_neg (by omega), List.append_nil, kids_none h (by omega) hno]
theorem kids_without {R : List RN} {q c : Int} (h : ∀ n, n ∈ R → n.id ≠ c) : (kidIds R q).filter (fun i => i != c) = kidIds R q := by
  rw [List.filter_eq_self]
  intro i hi
  obtain ⟨n, hn, _, e⟩ := kidIds_mem.1 hi
  have := h n hn
  rw [e] at this
  simpa using this
theorem loose_without {R : List RN} (hI : Ids R) {k : Nat} (hk : k < R.length) {q : Int} (hq : q ≠ 0) : kidIds (looseP R k) q = (kidIds R q).filter (fun i => i != R[k].id) := by
  have h1 : ∀ n, n ∈ R.take k → n.id ≠ R[k].id := fun n hn e => by
    obtain ⟨j, hj, rfl⟩ := List.getElem_of_mem hn
    rw [List.length_take] at hj
    rw [List.getElem_take] at e
    have := hI.inj j k (by omega) hk e
    omega
  have h2 : ∀ n, n ∈ R.drop (k + 1) → n.id ≠ R[k].id := fun n hn e => by
    obtain ⟨j, hj, rfl⟩ := List.getElem_of_mem hn
    rw [List.length_drop] at hj
    rw [List.getElem_drop] at e
    have := hI.inj (k + 1 + j) k (by omega) hk e
    omega
  have e0 : kidIds R q = kidIds (R.take k ++ [R[k]] ++ R.drop (k + 1)) q := congrArg (fun l => kidIds l q) (split_at hk)
  rw [looseP_lt hk, set_split _ hk, e0]
  simp only [kidIds_append, kidIds_one, List.filter_append]
  rw [kids_without h1, kids_without h2, if_neg (fun e : (0 : Int) = q => hq e.symm)]
  by_cases hp : R[k].par = q
  · rw [if_pos hp]; simp
  · rw [if_neg hp]; simp
def insB4 (bf c : Int) (l : List Int) : List Int := if bf = 0 then l ++ [c] else l.takeWhile (fun i => i != bf) ++ [c] ++ l.dropWhile (fun i => i != bf)
theorem take_while_at {bf : Int} : ∀ (l : List Int) (i : Nat), l[i]? = some bf → (∀ j, j < i → l[j]? ≠ some bf) → l.takeWhile (fun y => y != bf) = l.take i ∧ l.dropWhile (fun y => y != bf) = l.drop i
  | [], i, h, _ => by simp at h
  | a :: l, 0, h, _ => by
    have e : a = bf := by simpa using h
    subst e
    simp
  | a :: l, i + 1, h, hn => by
    have e : a ≠ bf := fun e => hn 0 (by omega) (by simp [e])
    have ih := take_while_at l i (by simpa using h) (fun j hj => by have := hn (j + 1) (by omega); simpa using this)
    simp [e, ih.1, ih.2]
theorem ins_kids {R : List RN} (hI : Ids R) {k : Nat} (hk : k < R.length) {pa bf q : Int} (hq : q ≠ 0) (hpa : pa ≠ 0) (hb : bf = 0 ∨ (bf ≠ R[k].id ∧ bf ∈ kidIds R pa)) :
    kidIds (insP R { R[k] with par := pa } k bf) q = if q = pa then insB4 bf R[k].id ((kidIds R q).filter (fun i => i != R[k].id)) else (kidIds R q).filter (fun i => i != R[k].id) := by
  have hk' : k < (looseP R k).length := by rw [looseP_lt hk, List.length_set]; exact hk
  have hI' : Ids (looseP R k) := by rw [looseP_lt hk]; exact set_ids hI hk rfl
  have hpk : (looseP R k)[k].par = 0 := by rw [loose_get_k hk hk']
  rw [← ins_loose hk]
  by_cases e : q = pa
  · subst e
    rw [if_pos rfl]
    unfold insB4
    rcases hb with rfl | ⟨hb1, hb2⟩
    · rw [if_pos rfl, ins_last hk' (by rw [hpk]; exact fun e => hq e.symm) rfl, loose_without hI hk hq]
    · obtain ⟨m, hm, hmp, hmi⟩ := kidIds_mem.1 hb2
      have hbf0 : bf ≠ 0 := by have := hI.pos m hm; omega
      rw [if_neg hbf0]
      obtain ⟨b, hbl, rfl⟩ := List.getElem_of_mem hm
      have hbk : b ≠ k := fun e => by subst e; exact hb1 hmi.symm
      have hbl' : b < (looseP R k).length := by rw [looseP_lt hk, List.length_set]; exact hbl
      have eb : (looseP R k)[b] = R[b] := loose_get hk hbl hbk hbl'
      obtain ⟨i, _, h2, h3, h4⟩ := ins_before (n := { R[k] with par := q }) hI' hk' (by rw [hpk]; exact fun e => hq e.symm) rfl hbl' (by rw [eb]; exact hmi) (by rw [eb]; exact hmp) hbf0
      rw [h4]
      rw [loose_without hI hk hq] at h2 h3 ⊢
      obtain ⟨t1, t2⟩ := take_while_at _ i h2 h3
      rw [t1, t2]
  · rw [if_neg e, ins_other hk' (by rw [hpk]; exact fun e => hq e.symm) (fun e2 => e e2.symm), loose_without hI hk hq]
theorem ins_has {R : List RN} (hI : Ids R) {k : Nat} (hk : k < R.length) {pa bf : Int} (hb : bf = 0 ∨ ∃ i, i < R.length ∧ idAt R i = bf) (i : Int) : Has (insP R { R[k] with par := pa } k bf) i ↔ Has R i := by
  obtain ⟨h1, h2⟩ := insP_perm (n := { R[k] with par := pa }) hI hk hb
  constructor
  · rintro ⟨m, hm, rfl⟩
    rcases List.mem_append.1 (h1.mem_iff.1 hm) with h | h
    · exact ⟨m, h2.mem_iff.2 (List.mem_append_left _ h), rfl⟩
    · rw [List.mem_singleton.1 h]; exact ⟨R[k], List.getElem_mem hk, rfl⟩
  · rintro ⟨m, hm, rfl⟩
    rcases List.mem_append.1 (h2.mem_iff.1 hm) with h | h
    · exact ⟨m, h1.mem_iff.2 (List.mem_append_left _ h), rfl⟩
    · rw [List.mem_singleton.1 h]; exact ⟨_, h1.mem_iff.2 (List.mem_append_right _ (List.mem_singleton.2 rfl)), rfl⟩
theorem ins_ni {R : List RN} (hI : Ids R) {k : Nat} (hk : k < R.length) {pa bf : Int} (hpa : pa ≠ 0) (hb : bf = 0 ∨ (bf ≠ R[k].id ∧ bf ∈ kidIds R pa)) (hb2 : bf = 0 ∨ ∃ i, i < R.length ∧ idAt R i = bf) {i : Int} (hi : Has R i) :
    niOf (insP R { R[k] with par := pa } k bf) i = { niOf R i with kids := if i = pa then insB4 bf R[k].id ((niOf R i).kids.filter (fun j => j != R[k].id)) else (niOf R i).kids.filter (fun j => j != R[k].id) } := by
  obtain ⟨h1, h2⟩ := insP_perm (n := { R[k] with par := pa }) hI hk hb2
  have hI' := insP_ids (n := { R[k] with par := pa }) hI hk hb2 rfl
  have hpos := has_pos hI hi
  obtain ⟨m, hm, rfl⟩ := hi
  have hkid := ins_kids hI hk (q := m.id) (by omega) hpa hb
  rw [niOf_mem hI hm]
  rcases List.mem_append.1 (h2.mem_iff.1 hm) with h | h
  · have h3 := niOf_mem hI' (h1.mem_iff.2 (List.mem_append_left [{ R[k] with par := pa }] h))
    rw [h3, hkid]
  · have e := List.mem_singleton.1 h
    subst e
    have h3 := niOf_mem hI' (h1.mem_iff.2 (List.mem_append_right (restTo R k R.length) (List.mem_singleton.2 (rfl : ({ R[k] with par := pa } : RN) = _))))
    rw [hkid] at h3
    exact h3
theorem stay_filter (R : List RN) (L : List Int) (q : Int) : kidIds (stayP R L) q = (kidIds R q).filter (fun i => !(L.contains i)) := by
  unfold kidIds stayP
  rw [List.filter_map, List.filter_filter, List.filter_filter]
  congr 1
  refine List.filter_congr fun n _ => ?_
  simp [Bool.and_comm]
theorem rem_has {R : List RN} {last : Int} (h : DocOk R last) {k : Nat} (hk : k < R.length) (i : Int) : Has (rmP R (walkP R R.length k 0)) i ↔ Has R i ∧ i ∉ widP R R.length k := by
  obtain ⟨rk, hU⟩ := h.up
  rw [rm_stay h.ids (fitP_all hU hk)]
  constructor
  · rintro ⟨m, hm, rfl⟩
    obtain ⟨h1, h2⟩ := stay_mem.1 hm
    exact ⟨⟨m, h1, rfl⟩, h2⟩
  · rintro ⟨⟨m, hm, rfl⟩, h2⟩
    exact ⟨m, stay_mem.2 ⟨hm, h2⟩, rfl⟩
theorem rem_ni {R : List RN} {last : Int} (h : DocOk R last) {k : Nat} (hk : k < R.length) {i : Int} (hi : Has R i) (hn : i ∉ widP R R.length k) : niOf (rmP R (walkP R R.length k 0)) i = { niOf R i with kids := (niOf R i).kids.filter (fun j => j != R[k].id) } := by
  obtain ⟨rk, hU⟩ := h.up
  have hI := h.ids
  have hf := fitP_all hU hk
  have hpos := has_pos hI hi
  obtain ⟨m, hm, rfl⟩ := hi
  have hI' : Ids (rmP R (walkP R R.length k 0)) := rmP_ids hI
  rw [rm_stay hI hf] at hI' ⊢
  rw [niOf_mem hI' (stay_mem.2 ⟨hm, hn⟩), niOf_mem hI hm, stay_filter]
  congr 1
  refine List.filter_congr fun j hj => ?_
  obtain ⟨c, hc, h1, rfl⟩ := kidIds_mem.1 hj
  obtain ⟨p, hp, rfl⟩ := List.getElem_of_mem hc
  by_cases e : R[p].id = R[k].id
  · have hpk := hI.inj p k hp hk e
    subst hpk
    have : R[p].id ∈ widP R R.length p := by
      cases hL : R.length with
      | zero => omega
      | succ f => rw [widP, idAt_lt hp]; exact List.mem_cons_self ..
    simp [this]
  · have : R[p].id ∉ widP R R.length k := fun hin => by
      rcases wid_up hI hf hp hin with e2 | ⟨n, hn1, hn2, hn3⟩
      · subst e2; exact e rfl
      · rw [hn2, h1] at hn3; exact hn hn3
    simp [this, e]
end Go.Proofs.Ytobgcaemnpkbmaa
namespace Go.Proofs.Ytobgcaemnpkbmaa
open Go.RowKit
inductive Dsc (T : Int → NI) : Int → Int → Prop
  | self (i : Int) : Dsc T i i
  | step {i k j : Int} : k ∈ (T i).kids → Dsc T k j → Dsc T i j
theorem ni_kids {R : List RN} (hI : Ids R) {i : Int} (h : Has R i) : (niOf R i).kids = kidIds R i := by
  obtain ⟨n, hn, rfl⟩ := h
  rw [niOf_mem hI hn]
theorem wid_dsc {R : List RN} (hI : Ids R) : ∀ (f a : Nat), fitP R f a → ∀ x, x ∈ widP R f a ↔ Dsc (niOf R) (idAt R a) x
  | 0, _, h, _ => by cases h
  | f + 1, a, h, x => by
    obtain ⟨ha, hk⟩ := h
    have hHas : Has R (idAt R a) := by rw [idAt_lt ha]; exact ⟨_, List.getElem_mem ha, rfl⟩
    have h0 : idAt R a ≠ 0 := by have := has_pos hI hHas; omega
    have hks : (kidsP R (idAt R a)).map (idAt R) = (niOf R (idAt R a)).kids := by rw [ni_kids hI hHas, kids_ids R h0]
    rw [widP, List.mem_cons, List.mem_flatMap]
    constructor
    · rintro (rfl | ⟨k, hk1, hk2⟩)
      · exact .self _
      · refine .step (k := idAt R k) ?_ ((wid_dsc hI f k (hk k hk1) x).1 hk2)
        rw [← hks]
        exact List.mem_map.2 ⟨k, hk1, rfl⟩
    · intro hd
      cases hd with
      | self => exact .inl rfl
      | step h1 h2 =>
        rw [← hks] at h1
        obtain ⟨k, hk1, rfl⟩ := List.mem_map.1 h1
        exact .inr ⟨k, hk1, (wid_dsc hI f k (hk k hk1) x).2 h2⟩
theorem eff_create {R : List RN} {last : Int} (hlen : R.length < 800) {ky : Int} {tg tx : ByteArray} (h1 : oneB (nodOf tg ky tx) = true) :
    canP R last ⟨1, last + 1, 0, 0, ky, tg, ⟨#[]⟩, tx⟩ = true ∧ didP R ⟨1, last + 1, 0, 0, ky, tg, ⟨#[]⟩, tx⟩ = R ++ [newRN ⟨1, last + 1, 0, 0, ky, tg, ⟨#[]⟩, tx⟩] ∧ lastP last ⟨1, last + 1, 0, 0, ky, tg, ⟨#[]⟩, tx⟩ = last + 1 := by
  refine ⟨?_, rfl, rfl⟩
  unfold canP
  rw [if_pos (by simp)]
  unfold createB
  simp only [h1, Bool.true_and, Bool.and_eq_true, decide_eq_true_eq, beq_self_eq_true]
  exact ⟨⟨⟨hlen, trivial⟩, trivial⟩, by simp⟩
theorem nth_at {R : List RN} {k : Nat} (hk : k < R.length) {i : Int} (h : atP R i = (k : Int)) : nth R (atP R i).toNat = R[k] := by
  rw [h, Int.toNat_natCast, nth_lt hk]
theorem eff_insert {R : List RN} {last : Int} (h : DocOk R last) {c pa bf : Int} (hc : Has R c) (hc1 : c ≠ 1) (hpa : Has R pa) (htag : (niOf R pa).tag.toList.isEmpty = false) (hb : bf = 0 ∨ (bf ≠ c ∧ bf ∈ (niOf R pa).kids)) (hw : ¬ WithinP R pa c) :
    canP R last ⟨2, c, pa, bf, 0, ⟨#[]⟩, ⟨#[]⟩, ⟨#[]⟩⟩ = true ∧ (∀ i, Has (didP R ⟨2, c, pa, bf, 0, ⟨#[]⟩, ⟨#[]⟩, ⟨#[]⟩⟩) i ↔ Has R i) ∧ (∀ i, Has R i → niOf (didP R ⟨2, c, pa, bf, 0, ⟨#[]⟩, ⟨#[]⟩, ⟨#[]⟩⟩) i = { niOf R i with kids := if i = pa then insB4 bf c ((niOf R i).kids.filter (fun j => j != c)) else (niOf R i).kids.filter (fun j => j != c) }) ∧ lastP last ⟨2, c, pa, bf, 0, ⟨#[]⟩, ⟨#[]⟩, ⟨#[]⟩⟩ = last ∧ (didP R ⟨2, c, pa, bf, 0, ⟨#[]⟩, ⟨#[]⟩, ⟨#[]⟩⟩).length = R.length := by
  have hI := h.ids
  obtain ⟨k, hk, hki, hka⟩ := has_at hI hc
  obtain ⟨p, hp, hpi, hpp⟩ := has_at hI hpa
  have hpos := has_pos hI hpa
  have hkids := ni_kids hI hpa
  have hni : niOf R pa = ⟨R[p].key, R[p].tag, R[p].text, R[p].ats, kidIds R R[p].id⟩ := by rw [← hpi]; exact ni_get hI hp
  have hbR : bf = 0 ∨ (bf ≠ R[k].id ∧ bf ∈ kidIds R pa) := by
    rcases hb with e | ⟨e1, e2⟩
    · exact .inl e
    · rw [hkids] at e2; rw [hki]; exact .inr ⟨e1, e2⟩
  have hb2 : bf = 0 ∨ ∃ i, i < R.length ∧ idAt R i = bf := by
    rcases hbR with e | ⟨_, e⟩
    · exact .inl e
    · obtain ⟨m, hm, _, rfl⟩ := kidIds_mem.1 e
      obtain ⟨j, hj, rfl⟩ := List.getElem_of_mem hm
      exact .inr ⟨j, hj, idAt_lt hj⟩
  have hof : ofP R ⟨2, c, pa, bf, 0, ⟨#[]⟩, ⟨#[]⟩, ⟨#[]⟩⟩ = R[k] := nth_at hk hka
  have hdid : didP R ⟨2, c, pa, bf, 0, ⟨#[]⟩, ⟨#[]⟩, ⟨#[]⟩⟩ = insP R { R[k] with par := pa } k bf := by
    unfold didP
    rw [if_neg (by simp), if_pos (by simp), hof]
    show insP R _ (atP R c).toNat bf = _
    rw [hka, Int.toNat_natCast]
  refine ⟨?_, fun i => ?_, fun i hi => ?_, rfl, ?_⟩
  · unfold canP
    rw [if_neg (by simp), if_pos (by simp)]
    unfold insB
    have hd : ∀ i : Decidable (WithinP R pa c), @decide _ i = false := fun i => decide_eq_false hw
    have e1 : nth R p = R[p] := nth_lt hp
    have e2 : R[p].tag.toList.isEmpty = false := by rw [hni] at htag; exact htag
    have e3 : (!(bf != 0) || (decide (0 ≤ atP R bf) && !((nth R (atP R bf).toNat).par != pa) && !(bf == c))) = true := by
      rcases hbR with e | ⟨e4, e5⟩
      · rw [e]; rfl
      · obtain ⟨m, hm, hm2, rfl⟩ := kidIds_mem.1 e5
        obtain ⟨j, hj, hji, hja⟩ := has_at hI ⟨m, hm, rfl⟩
        have e6 : R[j] = m := ids_eq hI (List.getElem_mem hj) hm hji
        rw [nth_at hj hja, hja, e6, hm2]
        rw [hki] at e4
        have : (m.id == c) = false := beq_eq_false_iff_ne.2 e4
        simp [this]
    have e7 : (c == 1) = false := beq_eq_false_iff_ne.2 hc1
    simp only [hd, e3, hka, hpp, Int.toNat_natCast, e1, e2, e7]
    simp
  · rw [hdid]; exact ins_has hI hk hb2 i
  · rw [hdid]
    have := ins_ni hI hk (pa := pa) (by omega) hbR hb2 hi
    rw [hki] at this
    exact this
  · rw [hdid]; exact insP_length hI hk hb2
theorem eff_remove {R : List RN} {last : Int} (h : DocOk R last) {c : Int} (hc : Has R c) (hc1 : c ≠ 1) :
    canP R last ⟨3, c, 0, 0, 0, ⟨#[]⟩, ⟨#[]⟩, ⟨#[]⟩⟩ = true ∧ (∀ i, Has (didP R ⟨3, c, 0, 0, 0, ⟨#[]⟩, ⟨#[]⟩, ⟨#[]⟩⟩) i ↔ Has R i ∧ ¬ Dsc (niOf R) c i) ∧ (∀ i, Has R i → ¬ Dsc (niOf R) c i → niOf (didP R ⟨3, c, 0, 0, 0, ⟨#[]⟩, ⟨#[]⟩, ⟨#[]⟩⟩) i = { niOf R i with kids := (niOf R i).kids.filter (fun j => j != c) }) ∧ lastP last ⟨3, c, 0, 0, 0, ⟨#[]⟩, ⟨#[]⟩, ⟨#[]⟩⟩ = last ∧ (didP R ⟨3, c, 0, 0, 0, ⟨#[]⟩, ⟨#[]⟩, ⟨#[]⟩⟩).length ≤ R.length := by
  have hI := h.ids
  obtain ⟨k, hk, hki, hka⟩ := has_at hI hc
  obtain ⟨rk, hU⟩ := h.up
  have hf := fitP_all hU hk
  have hdid : didP R ⟨3, c, 0, 0, 0, ⟨#[]⟩, ⟨#[]⟩, ⟨#[]⟩⟩ = rmP R (walkP R R.length k 0) := by
    unfold didP
    rw [if_neg (by simp), if_neg (by simp), if_pos (by simp)]
    show rmP R (walkP R R.length (atP R c).toNat 0) = _
    rw [hka, Int.toNat_natCast]
  have hd : ∀ i, i ∈ widP R R.length k ↔ Dsc (niOf R) c i := fun i => by
    have := wid_dsc hI R.length k hf i
    rw [idAt_lt hk, hki] at this
    exact this
  refine ⟨?_, fun i => ?_, fun i hi hn => ?_, rfl, ?_⟩
  · unfold canP
    rw [if_neg (by simp), if_neg (by simp), if_pos (by simp)]
    unfold remB
    have e7 : (c == 1) = false := beq_eq_false_iff_ne.2 hc1
    simp only [hka, e7]
    simp
  · rw [hdid, rem_has h hk, hd]
  · rw [hdid, ← hki]
    refine rem_ni h hk hi ?_
    rw [hd]
    exact hn
  · rw [hdid, rm_stay hI hf]
    exact List.length_filter_le _ _
theorem eff_put {R : List RN} {last : Int} (h : DocOk R last) {x : Pat} {k : Nat} (hk : k < R.length) {n : RN} (h1 : n.id = R[k].id) (h2 : n.par = R[k].par) (hdid : didP R x = R.set k n) :
    (∀ i, Has (didP R x) i ↔ Has R i) ∧ (∀ i, Has R i → i ≠ R[k].id → niOf (didP R x) i = niOf R i) ∧ niOf (didP R x) R[k].id = ⟨n.key, n.tag, n.text, n.ats, (niOf R R[k].id).kids⟩ ∧ (didP R x).length = R.length := by
  rw [hdid]
  refine ⟨put_has hk h1, fun i hi hne => put_other h.ids hk h1 h2 hi hne, ?_, List.length_set ..⟩
  rw [put_same h.ids hk h1 h2, ni_get h.ids hk]
theorem eff_write {R : List RN} {last : Int} (h : DocOk R last) {c : Int} (hc : Has R c) {tx : ByteArray} (htag : (niOf R c).tag.toList.isEmpty = true) (hs : tx.size ≤ 20) :
    canP R last ⟨6, c, 0, 0, 0, ⟨#[]⟩, ⟨#[]⟩, tx⟩ = true ∧ (∀ i, Has (didP R ⟨6, c, 0, 0, 0, ⟨#[]⟩, ⟨#[]⟩, tx⟩) i ↔ Has R i) ∧ (∀ i, Has R i → i ≠ c → niOf (didP R ⟨6, c, 0, 0, 0, ⟨#[]⟩, ⟨#[]⟩, tx⟩) i = niOf R i) ∧ niOf (didP R ⟨6, c, 0, 0, 0, ⟨#[]⟩, ⟨#[]⟩, tx⟩) c = { niOf R c with text := tx } ∧ lastP last ⟨6, c, 0, 0, 0, ⟨#[]⟩, ⟨#[]⟩, tx⟩ = last ∧ (didP R ⟨6, c, 0, 0, 0, ⟨#[]⟩, ⟨#[]⟩, tx⟩).length = R.length := by
  have hI := h.ids
  obtain ⟨k, hk, hki, hka⟩ := has_at hI hc
  have hof : ofP R ⟨6, c, 0, 0, 0, ⟨#[]⟩, ⟨#[]⟩, tx⟩ = R[k] := nth_at hk hka
  have hni : niOf R c = ⟨R[k].key, R[k].tag, R[k].text, R[k].ats, kidIds R R[k].id⟩ := by rw [← hki]; exact ni_get hI hk
  have hdid : didP R ⟨6, c, 0, 0, 0, ⟨#[]⟩, ⟨#[]⟩, tx⟩ = R.set k { R[k] with text := tx } := by
    unfold didP
    rw [if_neg (by simp), if_neg (by simp), if_neg (by simp), if_pos (by simp), hof]
    show R.set (atP R c).toNat _ = _
    rw [hka, Int.toNat_natCast]
  obtain ⟨e1, e2, e3, e4⟩ := eff_put h hk (n := { R[k] with text := tx }) rfl rfl hdid
  rw [hki] at e2 e3
  refine ⟨?_, e1, e2, ?_, rfl, e4⟩
  · unfold canP
    rw [if_neg (by simp), if_neg (by simp), if_neg (by simp), if_pos (by simp), hof]
    unfold wriB
    have e5 : R[k].tag.toList.isEmpty = true := by rw [hni] at htag; exact htag
    have e6 : decide ((tx.size : Int) ≤ 20) = true := by simp; omega
    simp only [hka, e5, e6]
    simp
  · rw [e3, hni]
theorem eff_set {R : List RN} {last : Int} (h : DocOk R last) {c : Int} (hc : Has R c) {nm vl : ByteArray} (hnm : nameB nm = true) (htag : (niOf R c).tag.toList.isEmpty = false) (hs : vl.size ≤ 20) (hroom : (unsetP (niOf R c).ats nm).length < (niOf R c).ats.length ∨ (niOf R c).ats.length < 5) :
    canP R last ⟨4, c, 0, 0, 0, ⟨#[]⟩, nm, vl⟩ = true ∧ (∀ i, Has (didP R ⟨4, c, 0, 0, 0, ⟨#[]⟩, nm, vl⟩) i ↔ Has R i) ∧ (∀ i, Has R i → i ≠ c → niOf (didP R ⟨4, c, 0, 0, 0, ⟨#[]⟩, nm, vl⟩) i = niOf R i) ∧ niOf (didP R ⟨4, c, 0, 0, 0, ⟨#[]⟩, nm, vl⟩) c = { niOf R c with ats := setP (niOf R c).ats nm vl } ∧ lastP last ⟨4, c, 0, 0, 0, ⟨#[]⟩, nm, vl⟩ = last ∧ (didP R ⟨4, c, 0, 0, 0, ⟨#[]⟩, nm, vl⟩).length = R.length := by
  have hI := h.ids
  obtain ⟨k, hk, hki, hka⟩ := has_at hI hc
  have hof : ofP R ⟨4, c, 0, 0, 0, ⟨#[]⟩, nm, vl⟩ = R[k] := nth_at hk hka
  have hni : niOf R c = ⟨R[k].key, R[k].tag, R[k].text, R[k].ats, kidIds R R[k].id⟩ := by rw [← hki]; exact ni_get hI hk
  have hdid : didP R ⟨4, c, 0, 0, 0, ⟨#[]⟩, nm, vl⟩ = R.set k { R[k] with ats := setP R[k].ats nm vl } := by
    unfold didP
    rw [if_neg (by simp), if_neg (by simp), if_neg (by simp), if_neg (by simp), if_pos (by simp), hof]
    show R.set (atP R c).toNat _ = _
    rw [hka, Int.toNat_natCast]
  obtain ⟨e1, e2, e3, e4⟩ := eff_put h hk (n := { R[k] with ats := setP R[k].ats nm vl }) rfl rfl hdid
  rw [hki] at e2 e3
  refine ⟨?_, e1, e2, ?_, rfl, e4⟩
  · unfold canP
    rw [if_neg (by simp), if_neg (by simp), if_neg (by simp), if_neg (by simp), if_pos (by simp), hof]
    unfold setB hasB
    rw [hni] at htag hroom
    have e5 : R[k].tag.toList.isEmpty = false := htag
    have e6 : decide ((vl.size : Int) ≤ 20) = true := by simp; omega
    have e8 : (decide ((unsetP R[k].ats nm).length < R[k].ats.length) || decide (R[k].ats.length < 5)) = true := by simpa using hroom
    simp only [hka, e5, e6, hnm, e8]
    simp
  · rw [e3, hni]
theorem eff_unset {R : List RN} {last : Int} (h : DocOk R last) {c : Int} (hc : Has R c) {nm : ByteArray} (hnm : nameB nm = true) (htag : (niOf R c).tag.toList.isEmpty = false) (hhas : (unsetP (niOf R c).ats nm).length < (niOf R c).ats.length) :
    canP R last ⟨5, c, 0, 0, 0, ⟨#[]⟩, nm, ⟨#[]⟩⟩ = true ∧ (∀ i, Has (didP R ⟨5, c, 0, 0, 0, ⟨#[]⟩, nm, ⟨#[]⟩⟩) i ↔ Has R i) ∧ (∀ i, Has R i → i ≠ c → niOf (didP R ⟨5, c, 0, 0, 0, ⟨#[]⟩, nm, ⟨#[]⟩⟩) i = niOf R i) ∧ niOf (didP R ⟨5, c, 0, 0, 0, ⟨#[]⟩, nm, ⟨#[]⟩⟩) c = { niOf R c with ats := unsetP (niOf R c).ats nm } ∧ lastP last ⟨5, c, 0, 0, 0, ⟨#[]⟩, nm, ⟨#[]⟩⟩ = last ∧ (didP R ⟨5, c, 0, 0, 0, ⟨#[]⟩, nm, ⟨#[]⟩⟩).length = R.length := by
  have hI := h.ids
  obtain ⟨k, hk, hki, hka⟩ := has_at hI hc
  have hof : ofP R ⟨5, c, 0, 0, 0, ⟨#[]⟩, nm, ⟨#[]⟩⟩ = R[k] := nth_at hk hka
  have hni : niOf R c = ⟨R[k].key, R[k].tag, R[k].text, R[k].ats, kidIds R R[k].id⟩ := by rw [← hki]; exact ni_get hI hk
  have hdid : didP R ⟨5, c, 0, 0, 0, ⟨#[]⟩, nm, ⟨#[]⟩⟩ = R.set k { R[k] with ats := unsetP R[k].ats nm } := by
    unfold didP
    rw [if_neg (by simp), if_neg (by simp), if_neg (by simp), if_neg (by simp), if_neg (by simp), hof]
    show R.set (atP R c).toNat _ = _
    rw [hka, Int.toNat_natCast]
  obtain ⟨e1, e2, e3, e4⟩ := eff_put h hk (n := { R[k] with ats := unsetP R[k].ats nm }) rfl rfl hdid
  rw [hki] at e2 e3
  refine ⟨?_, e1, e2, ?_, rfl, e4⟩
  · unfold canP
    rw [if_neg (by simp), if_neg (by simp), if_neg (by simp), if_neg (by simp), if_neg (by simp), if_pos (by simp), hof]
    unfold unsB hasB
    rw [hni] at htag hhas
    have e5 : R[k].tag.toList.isEmpty = false := htag
    have e8 : decide ((unsetP R[k].ats nm).length < R[k].ats.length) = true := by simpa using hhas
    simp only [hka, e5, hnm, e8]
    simp
    decide
  · rw [e3, hni]
inductive RunL : List RN → Int → List Pat → List RN → Int → Prop
  | nil (R : List RN) (l : Int) : RunL R l [] R l
  | cons {R R' : List RN} {l l' : Int} {x : Pat} {P : List Pat} : canP R l x = true → RunL (didP R x) (lastP l x) P R' l' → RunL R l (x :: P) R' l'
theorem RunL.app {R R1 R2 : List RN} {l l1 l2 : Int} {P Q : List Pat} (h : RunL R l P R1 l1) (k : RunL R1 l1 Q R2 l2) : RunL R l (P ++ Q) R2 l2 := by
  induction h with
  | nil => exact k
  | cons h1 _ ih => exact .cons h1 (ih k)
theorem RunL.one {R : List RN} {l : Int} {x : Pat} (h : canP R l x = true) : RunL R l [x] (didP R x) (lastP l x) := .cons h (.nil ..)
theorem RunL.ok {R R' : List RN} {l l' : Int} {P : List Pat} (h : RunL R l P R' l') (hd : DocOk R l) (hF : Fine R) : DocOk R' l' ∧ Fine R' := by
  induction h with
  | nil => exact ⟨hd, hF⟩
  | cons h1 _ ih => exact ih (hd.did h1) (hF.did hd.ids h1)
end Go.Proofs.Ytobgcaemnpkbmaa
namespace Go.Proofs.Ytobgcaemnpkbmaa
open Go.RowKit
theorem sorted_sub {α : Type} {lt : α → α → Prop} (irr : ∀ a, ¬ lt a a) (tr : ∀ a b c, lt a b → lt b c → lt a c) : ∀ (m l : List α), l.Pairwise lt → m.Pairwise lt → (∀ a, a ∈ l → a ∈ m) → l.Sublist m
  | [], l, _, _, h => by
    cases l with
    | nil => exact .slnil
    | cons a l => exact absurd (h a (List.mem_cons_self ..)) (by simp)
  | b :: m, [], _, _, _ => List.nil_sublist _
  | b :: m, a :: l, hl, hm, h => by
    obtain ⟨hl1, hl2⟩ := List.pairwise_cons.1 hl
    obtain ⟨hm1, hm2⟩ := List.pairwise_cons.1 hm
    rcases List.mem_cons.1 (h a (List.mem_cons_self ..)) with e | e
    · subst e
      refine .cons_cons _ (sorted_sub irr tr m l hl2 hm2 fun x hx => ?_)
      rcases List.mem_cons.1 (h x (List.mem_cons_of_mem _ hx)) with e | e
      · subst e; exact absurd (hl1 _ hx) (irr _)
      · exact e
    · refine .cons _ (sorted_sub irr tr m (a :: l) hl hm2 fun x hx => ?_)
      rcases List.mem_cons.1 (h x hx) with e2 | e2
      · subst e2
        have h1 := hm1 a e
        rcases List.mem_cons.1 hx with e3 | e3
        · subst e3; exact absurd h1 (irr _)
        · exact absurd (tr _ _ _ h1 (hl1 _ e3)) (irr _)
      · exact e2
theorem lessB_irr (a : ByteArray) : ¬ lessB a a = true := by unfold lessB; rw [less_irrefl]; simp
theorem lessB_tr (a b c : ByteArray) (h : lessB a b = true) (k : lessB b c = true) : lessB a c = true := less_trans _ _ _ h k
theorem rises_eq {l m : List (ByteArray × ByteArray)} (hl : Rises l) (hm : Rises m) (h : ∀ a, a ∈ l ↔ a ∈ m) : l = m := by
  have h1 := sorted_sub (lt := fun x y : ByteArray × ByteArray => lessB x.1 y.1 = true) (fun a => lessB_irr a.1) (fun a b c => lessB_tr a.1 b.1 c.1) m l hl hm fun a => (h a).1
  have h2 := sorted_sub (lt := fun x y : ByteArray × ByteArray => lessB x.1 y.1 = true) (fun a => lessB_irr a.1) (fun a b c => lessB_tr a.1 b.1 c.1) l m hm hl fun a => (h a).2
  exact h1.eq_of_length_le h2.length_le
theorem rises_one {l : List (ByteArray × ByteArray)} (hl : Rises l) {a b : ByteArray × ByteArray} (ha : a ∈ l) (hb : b ∈ l) (e : a.1 = b.1) : a = b := by
  obtain ⟨i, hi, rfl⟩ := List.getElem_of_mem ha
  obtain ⟨j, hj, rfl⟩ := List.getElem_of_mem hb
  rcases Nat.lt_trichotomy i j with h | h | h
  · have := List.pairwise_iff_getElem.1 hl i j hi hj h
    rw [e] at this
    exact absurd this (lessB_irr _)
  · subst h; rfl
  · have := List.pairwise_iff_getElem.1 hl j i hj hi h
    rw [e] at this
    exact absurd this (lessB_irr _)
theorem rises_names {l : List (ByteArray × ByteArray)} (hl : Rises l) : (l.map (·.1)).Pairwise (fun a b => lessB a b = true) := List.pairwise_map.2 hl
theorem rises_less {l m : List (ByteArray × ByteArray)} (hl : Rises l) (hm : Rises m) (h : ∀ a, a ∈ l → ∃ b, b ∈ m ∧ b.1 = a.1) {c : ByteArray × ByteArray} (hc : c ∈ m) (hno : ∀ a, a ∈ l → a.1 ≠ c.1) : l.length < m.length := by
  have h1 := sorted_sub lessB_irr lessB_tr (m.map (·.1)) (l.map (·.1)) (rises_names hl) (rises_names hm) (fun x hx => by
    obtain ⟨a, ha, rfl⟩ := List.mem_map.1 hx
    obtain ⟨b, hb, e⟩ := h a ha
    exact List.mem_map.2 ⟨b, hb, e⟩)
  have h2 := h1.length_le
  rw [List.length_map, List.length_map] at h2
  rcases Nat.lt_or_ge l.length m.length with h3 | h3
  · exact h3
  · exfalso
    have h4 := h1.eq_of_length_le (by rw [List.length_map, List.length_map]; exact h3)
    have h5 : c.1 ∈ m.map (·.1) := List.mem_map.2 ⟨c, hc, rfl⟩
    rw [← h4] at h5
    obtain ⟨a, ha, e⟩ := List.mem_map.1 h5
    exact hno a ha e
theorem set_mem {l : List (ByteArray × ByteArray)} (hl : Rises l) {nm vl : ByteArray} (a : ByteArray × ByteArray) : a ∈ setP l nm vl ↔ a = (nm, vl) ∨ (a ∈ l ∧ a.1 ≠ nm) := by
  have hin : (nm, vl) ∈ setP l nm vl := by rw [setP_pos hl]; simp
  constructor
  · intro h
    by_cases e : a.1 = nm
    · exact .inl (rises_one (rises_set hl) h hin e)
    · rcases setP_mem h with h1 | h1
      · exact .inr ⟨h1, e⟩
      · exact .inl h1
  · rintro (rfl | ⟨h1, h2⟩)
    · exact hin
    · obtain ⟨i, hi, rfl⟩ := List.getElem_of_mem h1
      rw [setP_pos hl]
      by_cases hp : i < posP l nm
      · refine List.mem_append_left _ (List.mem_append_left _ ?_)
        rw [List.mem_take_iff_getElem]
        exact ⟨i, by omega, rfl⟩
      · refine List.mem_append_right _ ?_
        rw [List.mem_drop_iff_getElem]
        unfold hitN
        by_cases hh : hitP l nm = true
        · rw [if_pos hh]
          have hne : i ≠ posP l nm := fun e => by
            unfold hitP at hh
            simp only [Bool.and_eq_true, decide_eq_true_eq] at hh
            rw [attAt_lt hh.1] at hh
            have := sameB_eq hh.2
            subst e
            exact h2 this
          exact ⟨i - (posP l nm + 1), by omega, by congr 1; omega⟩
        · rw [if_neg hh]
          exact ⟨i - posP l nm, by omega, by congr 1; omega⟩
theorem unset_mem {l : List (ByteArray × ByteArray)} {nm : ByteArray} (a : ByteArray × ByteArray) : a ∈ unsetP l nm ↔ a ∈ l ∧ a.1 ≠ nm := by
  unfold unsetP
  rw [List.mem_filter]
  constructor
  · rintro ⟨h1, h2⟩
    refine ⟨h1, fun e => ?_⟩
    rw [e] at h2
    simp [sameB] at h2
  · rintro ⟨h1, h2⟩
    refine ⟨h1, ?_⟩
    cases e : sameB a.1 nm with
    | false => rfl
    | true => exact absurd (sameB_eq e) h2
theorem unset_less {l : List (ByteArray × ByteArray)} {nm : ByteArray} {a : ByteArray × ByteArray} (ha : a ∈ l) (e : a.1 = nm) : (unsetP l nm).length < l.length := by
  rcases Nat.lt_or_ge (unsetP l nm).length l.length with h | h
  · exact h
  · exfalso
    have h1 : (unsetP l nm).Sublist l := List.filter_sublist
    have h2 := h1.eq_of_length_le h
    rw [← h2] at ha
    exact ((unset_mem a).1 ha).2 e
end Go.Proofs.Ytobgcaemnpkbmaa
