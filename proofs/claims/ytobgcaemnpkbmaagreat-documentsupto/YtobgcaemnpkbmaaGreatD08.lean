/- Theo3 Theo4 Theo5 Theo6 Theo7 Kid -/
import Derived.Test.YtobgcaemnpkbmaaGreatD07
namespace Go.Proofs.YtobgcaemnpkbmaaGreat
open Go.RowKit
theorem restTo_mem {R : List RN} {fr : Nat} : ∀ {k : Nat} {m : RN}, k ≤ R.length → m ∈ restTo R fr k → ∃ i, ∃ hi : i < R.length, i ≠ fr ∧ m = R[i] := by
  intro k
  induction k with
  | zero => intro m _ h; simp [restTo] at h
  | succ k ih =>
    intro m hk h
    rw [restTo] at h
    rcases List.mem_append.1 h with h | h
    · exact ih (by omega) h
    · by_cases e : k = fr
      · rw [if_pos e] at h; simp at h
      · rw [if_neg e, drop_one (by omega)] at h
        exact ⟨k, by omega, e, List.mem_singleton.1 h⟩
theorem inP_no {R : List RN} {rk : Int → Nat} (hU : Up R rk) (hI : Ids R) {other : Int} (h0 : other ≠ 0) : ∀ (f : Nat) (x : Int), (x = 0 ∨ ∃ n, n ∈ R ∧ n.id = x) → (x = 0 ∨ rk x < f) → inP R f x other = false → ∀ m, upN R m x ≠ other := by
  intro f
  induction f with
  | zero =>
    intro x _ hf _ m
    rcases hf with rfl | hf
    · rw [upN_zero]; exact fun e => h0 e.symm
    · omega
  | succ f ih =>
    intro x hx hf h m
    by_cases hz : x = 0
    · subst hz; rw [upN_zero]; exact fun e => h0 e.symm
    · rw [inP, if_neg hz] at h
      by_cases ho : x = other
      · rw [if_pos ho] at h; cases h
      · rw [if_neg ho] at h
        cases m with
        | zero => exact ho
        | succ m =>
          rw [upN]
          obtain ⟨n, hn, rfl⟩ := hx.resolve_left hz
          obtain ⟨i, hi, rfl⟩ := List.getElem_of_mem hn
          have e1 : parOf R R[i].id = R[i].par := by have := upP_id hI hi; unfold upP at this; rwa [if_neg hz] at this
          rw [upP_id hI hi]
          rw [e1] at h
          refine ih R[i].par (hU.par _ (List.getElem_mem hi)) ?_ h m
          by_cases hp : R[i].par = 0
          · exact .inl hp
          · right
            have := hU.rank R[i] (List.getElem_mem hi) hp
            have := hf.resolve_left hz
            omega
theorem insP_up {R : List RN} {rk : Int → Nat} (hU : Up R rk) (hI : Ids R) {fr : Nat} {bf pa : Int} (hfr : fr < R.length) (hb : bf = 0 ∨ ∃ i, i < R.length ∧ idAt R i = bf) (hpa : ∃ n, n ∈ R ∧ n.id = pa) (hno : ∀ m, upN R m pa ≠ R[fr].id) :
    ∃ rk', Up (insP R { R[fr] with par := pa } fr bf) rk' := by
  classical
  have hperm := insP_perm (n := { R[fr] with par := pa }) hI hfr hb
  have hin : ∀ x, (∃ n, n ∈ R ∧ n.id = x) → ∃ n, n ∈ insP R { R[fr] with par := pa } fr bf ∧ n.id = x := by
    rintro x ⟨n, hn, rfl⟩
    rcases List.mem_append.1 (hperm.2.mem_iff.1 hn) with h | h
    · exact ⟨n, hperm.1.mem_iff.2 (List.mem_append.2 (.inl h)), rfl⟩
    · have := List.mem_singleton.1 h
      subst this
      exact ⟨{ R[fr] with par := pa }, hperm.1.mem_iff.2 (List.mem_append.2 (.inr (by simp))), rfl⟩
  have hmem : ∀ m, m ∈ insP R { R[fr] with par := pa } fr bf → (∃ i, ∃ hi : i < R.length, i ≠ fr ∧ m = R[i]) ∨ m = { R[fr] with par := pa } := by
    intro m hm
    rcases List.mem_append.1 (hperm.1.mem_iff.1 hm) with h | h
    · exact .inl (restTo_mem (Nat.le_refl _) h)
    · exact .inr (List.mem_singleton.1 h)
  refine ⟨fun x => if ∃ j, upN R j x = R[fr].id then rk x + rk pa + 1 else rk x, fun m hm => ?_, fun m hm hp => ?_⟩
  · rcases hmem m hm with ⟨i, hi, _, rfl⟩ | rfl
    · exact (hU.par _ (List.getElem_mem hi)).imp id (hin _)
    · exact .inr (hin pa hpa)
  · rcases hmem m hm with ⟨i, hi, hne, rfl⟩ | rfl
    · have hr := hU.rank _ (List.getElem_mem hi) hp
      have hiff : (∃ j, upN R j R[i].par = R[fr].id) ↔ ∃ j, upN R j R[i].id = R[fr].id := by
        constructor
        · rintro ⟨j, e⟩
          exact ⟨j + 1, by rw [upN, upP_id hI hi]; exact e⟩
        · rintro ⟨j, e⟩
          cases j with
          | zero =>
            have e : R[i].id = R[fr].id := e
            exact absurd (hI.inj i fr hi hfr e) hne
          | succ j => exact ⟨j, by rw [upN, upP_id hI hi] at e; exact e⟩
      simp only [hiff]
      split <;> omega
    · have h1 : ¬ ∃ j, upN R j pa = R[fr].id := fun ⟨j, e⟩ => hno j e
      have h2 : ∃ j, upN R j R[fr].id = R[fr].id := ⟨0, rfl⟩
      show (if ∃ j, upN R j pa = R[fr].id then _ else _) < (if ∃ j, upN R j R[fr].id = R[fr].id then _ else _)
      rw [if_neg h1, if_pos h2]
      show rk pa < rk R[fr].id + rk pa + 1
      omega
theorem walk_closed {R : List RN} : ∀ (f a : Nat) (d : Int), fitP R f a → ∀ x, x ∈ walkP R f a d → ∀ i, i ∈ kidsP R (idAt R x.1) → ∃ d', (i, d') ∈ walkP R f a d := by
  intro f
  induction f with
  | zero => intro a d h; exact absurd h (by simp [fitP])
  | succ f ih =>
    intro a d h x hx i hi
    rw [walkP] at hx ⊢
    rcases List.mem_cons.1 hx with rfl | hx
    · refine ⟨d + 1, List.mem_cons.2 (.inr (List.mem_flatMap.2 ⟨i, hi, ?_⟩))⟩
      have := h.2 i hi
      cases f with
      | zero => exact absurd this (by simp [fitP])
      | succ f => rw [walkP]; simp
    · obtain ⟨k, hk, hx⟩ := List.mem_flatMap.1 hx
      obtain ⟨d', hd'⟩ := ih k (d + 1) (h.2 k hk) x hx i hi
      exact ⟨d', List.mem_cons.2 (.inr (List.mem_flatMap.2 ⟨k, hk, hd'⟩))⟩
theorem goneB_iff {W : List (Nat × Int)} {i : Nat} : goneB W i = true ↔ ∃ d, (i, d) ∈ W := by
  unfold goneB
  rw [List.any_eq_true]
  constructor
  · rintro ⟨⟨a, d⟩, h, e⟩
    have e : a = i := by simpa using e
    subst e
    exact ⟨d, h⟩
  · rintro ⟨d, h⟩
    exact ⟨(i, d), h, by simp⟩
theorem rmTo_get {R : List RN} {W : List (Nat × Int)} : ∀ {k : Nat} {m : RN}, k ≤ R.length → (m ∈ rmTo R W k ↔ ∃ i, ∃ hi : i < R.length, i < k ∧ goneB W i = false ∧ m = R[i]) := by
  intro k
  induction k with
  | zero => intro m _; simp [rmTo]
  | succ k ih =>
    intro m hk
    rw [rmTo, List.mem_append, ih (by omega)]
    constructor
    · rintro (⟨i, hi, h1, h2, h3⟩ | h)
      · exact ⟨i, hi, by omega, h2, h3⟩
      · cases hg : goneB W k with
        | true => rw [hg] at h; simp at h
        | false =>
          rw [hg, if_neg (by simp), drop_one (by omega)] at h
          exact ⟨k, by omega, by omega, hg, List.mem_singleton.1 h⟩
    · rintro ⟨i, hi, h1, h2, h3⟩
      by_cases hik : i = k
      · subst hik
        right
        rw [h2, if_neg (by simp), drop_one hi]
        exact List.mem_singleton.2 h3
      · exact .inl ⟨i, hi, by omega, h2, h3⟩
theorem rmTo_sub (R : List RN) (W : List (Nat × Int)) : ∀ k, k ≤ R.length → (rmTo R W k).Sublist (R.take k) := by
  intro k
  induction k with
  | zero => intro _; simp [rmTo]
  | succ k ih =>
    intro hk
    have hk' : k < R.length := by omega
    rw [rmTo, List.take_succ_eq_append_getElem hk']
    refine (ih (by omega)).append ?_
    split
    · exact List.nil_sublist _
    · rw [drop_one hk']; exact List.Sublist.refl _
theorem rmP_ids {R : List RN} {W : List (Nat × Int)} (hI : Ids R) : Ids (rmP R W) := by
  have h := rmTo_sub R W R.length (Nat.le_refl _)
  rw [List.take_length] at h
  exact Ids.of_nodup (fun n hn => hI.pos n (h.subset hn)) ((h.map (·.id)).nodup hI.nodup)
theorem rmP_up {R : List RN} {rk : Int → Nat} (hU : Up R rk) (_hI : Ids R) {f a : Nat} {d : Int} (h : fitP R f a) : Up (rmP R (walkP R f a d)) rk := by
  have hmem : ∀ m, m ∈ rmP R (walkP R f a d) → ∃ i, ∃ hi : i < R.length, goneB (walkP R f a d) i = false ∧ m = R[i] := fun m hm => by
    obtain ⟨i, hi, _, h2, h3⟩ := (rmTo_get (Nat.le_refl _)).1 hm
    exact ⟨i, hi, h2, h3⟩
  refine ⟨fun m hm => ?_, fun m hm hp => ?_⟩
  · obtain ⟨i, hi, hg, rfl⟩ := hmem m hm
    by_cases hp : R[i].par = 0
    · exact .inl hp
    · obtain ⟨n, hn, e⟩ := (hU.par _ (List.getElem_mem hi)).resolve_left hp
      obtain ⟨j, hj, rfl⟩ := List.getElem_of_mem hn
      refine .inr ⟨R[j], (rmTo_get (Nat.le_refl _)).2 ⟨j, hj, hj, ?_, rfl⟩, e⟩
      cases hgj : goneB (walkP R f a d) j with
      | false => rfl
      | true =>
        obtain ⟨d', hd'⟩ := goneB_iff.1 hgj
        have hik : i ∈ kidsP R (idAt R j) := by
          unfold kidsP
          rw [idAt_lt hj, e, if_neg hp]
          exact kidsTo_mem.2 ⟨hi, parAt_lt hi⟩
        have := goneB_iff.2 (walk_closed f a d h (j, d') hd' i hik)
        rw [hg] at this
        cases this
  · obtain ⟨i, hi, _, rfl⟩ := hmem m hm
    exact hU.rank _ (List.getElem_mem hi) hp
theorem set_ids {R : List RN} {k : Nat} {n : RN} (hI : Ids R) (hk : k < R.length) (hn : n.id = R[k].id) : Ids (R.set k n) := by
  refine Ids.of_nodup (fun m hm => ?_) ?_
  · rcases List.mem_or_eq_of_mem_set hm with h | rfl
    · exact hI.pos m h
    · rw [hn]; exact hI.pos _ (List.getElem_mem hk)
  · have e : (R.set k n).map (·.id) = R.map (·.id) := by
      rw [List.map_set]
      apply List.ext_getElem?
      intro j
      by_cases hjk : k = j
      · subst hjk
        rw [List.getElem?_set_self (by simpa using hk), List.getElem?_map, List.getElem?_eq_getElem hk, hn]
        rfl
      · rw [List.getElem?_set_ne hjk]
    rw [e]
    exact hI.nodup
theorem set_up {R : List RN} {rk : Int → Nat} {k : Nat} {n : RN} (hU : Up R rk) (hk : k < R.length) (hn : n.id = R[k].id) (hp : n.par = R[k].par) : Up (R.set k n) rk := by
  have hin : ∀ x, (∃ m, m ∈ R ∧ m.id = x) → ∃ m, m ∈ R.set k n ∧ m.id = x := by
    rintro x ⟨m, hm, rfl⟩
    obtain ⟨i, hi, rfl⟩ := List.getElem_of_mem hm
    by_cases hik : k = i
    · subst hik; exact ⟨n, List.mem_set hk n, hn⟩
    · refine ⟨R[i], ?_, rfl⟩
      have : (R.set k n)[i]'(by simpa using hi) = R[i] := List.getElem_set_ne hik _
      rw [← this]
      exact List.getElem_mem _
  refine ⟨fun m hm => ?_, fun m hm h0 => ?_⟩
  · rcases List.mem_or_eq_of_mem_set hm with h | rfl
    · exact (hU.par m h).imp id (hin _)
    · rw [hp]; exact (hU.par _ (List.getElem_mem hk)).imp id (hin _)
  · rcases List.mem_or_eq_of_mem_set hm with h | rfl
    · exact hU.rank m h h0
    · rw [hp] at h0 ⊢; rw [hn]; exact hU.rank _ (List.getElem_mem hk) h0
theorem more_ids {R : List RN} {n : RN} (hI : Ids R) (h0 : 0 < n.id) (hn : ∀ m, m ∈ R → m.id < n.id) : Ids (R ++ [n]) := by
  refine Ids.of_nodup (fun m hm => ?_) ?_
  · rcases List.mem_append.1 hm with h | h
    · exact hI.pos m h
    · rw [List.mem_singleton.1 h]; exact h0
  · rw [List.map_append, List.nodup_append]
    refine ⟨hI.nodup, by simp, fun x hx y hy e => ?_⟩
    obtain ⟨m, hm, rfl⟩ := List.mem_map.1 hx
    simp at hy
    have := hn m hm
    omega
theorem more_up {R : List RN} {rk : Int → Nat} {n : RN} (hU : Up R rk) (hn : n.par = 0) : Up (R ++ [n]) rk := by
  refine ⟨fun m hm => ?_, fun m hm h0 => ?_⟩
  · rcases List.mem_append.1 hm with h | h
    · exact (hU.par m h).imp id (fun ⟨x, hx, e⟩ => ⟨x, List.mem_append.2 (.inl hx), e⟩)
    · rw [List.mem_singleton.1 h]; exact .inl hn
  · rcases List.mem_append.1 hm with h | h
    · exact hU.rank m h h0
    · rw [List.mem_singleton.1 h] at h0; exact absurd hn h0
end Go.Proofs.YtobgcaemnpkbmaaGreat
namespace Go.Proofs.YtobgcaemnpkbmaaGreat
open Go.RowKit
theorem setTo_many (l : List (ByteArray × ByteArray)) (nm vl : ByteArray) : ∀ k, k ≤ l.length → (setTo l nm vl k).1.length = (unsetTo l nm k).length + (if (setTo l nm vl k).2 = true then 1 else 0) := by
  intro k
  induction k with
  | zero => intro _; simp [setTo, unsetTo]
  | succ k ih =>
    intro hk
    have hk' : k < l.length := by omega
    have ih := ih (by omega)
    have ha : attAt l k = l[k] := by simp [attAt, hk']
    rw [setTo]
    simp only [ha]
    cases hr : (setTo l nm vl k).2 <;> rw [hr] at ih <;> cases hl : Op.bytesLess l[k].1.toList nm.toList <;> cases hs : sameB l[k].1 nm <;>
      first
      | rw [unsetTo_miss hk' hs]; simp at ih ⊢; omega
      | rw [unsetTo_hit hk' hs]; simp at ih ⊢; omega
theorem setP_many (l : List (ByteArray × ByteArray)) (nm vl : ByteArray) : (setP l nm vl).length = (unsetP l nm).length + 1 := by
  have h := setTo_many l nm vl l.length (Nat.le_refl _)
  rw [unsetTo_all] at h
  unfold setP
  cases hr : (setTo l nm vl l.length).2 <;> rw [hr] at h <;> simp at h ⊢ <;> omega
theorem setTo_mem (l : List (ByteArray × ByteArray)) (nm vl : ByteArray) : ∀ k, k ≤ l.length → ∀ x, x ∈ (setTo l nm vl k).1 → x ∈ l ∨ x = (nm, vl) := by
  intro k
  induction k with
  | zero => intro _ x h; simp [setTo] at h
  | succ k ih =>
    intro hk x h
    have hk' : k < l.length := by omega
    have ih := ih (by omega) x
    have ha : attAt l k = l[k] := by simp [attAt, hk']
    rw [setTo] at h
    simp only [ha] at h
    have hm : l[k] ∈ l := List.getElem_mem hk'
    have ho : ∀ y, y ∈ (if (setTo l nm vl k).2 = false ∧ Op.bytesLess l[k].1.toList nm.toList = false then (setTo l nm vl k).1 ++ [(nm, vl)] else (setTo l nm vl k).1) → y ∈ (setTo l nm vl k).1 ∨ y = (nm, vl) := by
      intro y hy
      split at hy
      · rcases List.mem_append.1 hy with h | h
        · exact .inl h
        · exact .inr (List.mem_singleton.1 h)
      · exact .inl hy
    split at h
    · rcases ho x h with h | h
      · exact ih h
      · exact .inr h
    · rcases List.mem_append.1 h with h | h
      · rcases ho x h with h | h
        · exact ih h
        · exact .inr h
      · exact .inl (by rw [List.mem_singleton.1 h]; exact hm)
theorem setP_mem {l : List (ByteArray × ByteArray)} {nm vl : ByteArray} {x : ByteArray × ByteArray} (h : x ∈ setP l nm vl) : x ∈ l ∨ x = (nm, vl) := by
  unfold setP at h
  split at h
  · exact setTo_mem l nm vl _ (Nat.le_refl _) x h
  · rcases List.mem_append.1 h with h | h
    · exact setTo_mem l nm vl _ (Nat.le_refl _) x h
    · exact .inr (List.mem_singleton.1 h)
theorem unsetP_mem {l : List (ByteArray × ByteArray)} {nm : ByteArray} {x : ByteArray × ByteArray} (h : x ∈ unsetP l nm) : x ∈ l := (List.mem_filter.1 h).1
theorem unsetP_many (l : List (ByteArray × ByteArray)) (nm : ByteArray) : (unsetP l nm).length ≤ l.length := List.length_filter_le _ _
theorem setP_five {l : List (ByteArray × ByteArray)} {nm vl : ByteArray} (h5 : l.length ≤ 5) (h : (unsetP l nm).length < l.length ∨ l.length < 5) : (setP l nm vl).length ≤ 5 := by
  rw [setP_many]
  have := unsetP_many l nm
  omega
end Go.Proofs.YtobgcaemnpkbmaaGreat
namespace Go.Proofs.YtobgcaemnpkbmaaGreat
open Go.RowKit
structure DocOk (R : List RN) (last : Int) : Prop where
  ids : Ids R
  up : ∃ rk, Up R rk
  top : ∀ n, n ∈ R → n.id ≤ last
  root : ∃ n, n ∈ R ∧ n.id = 1 ∧ n.par = 0
theorem DocOk.last_pos {R : List RN} {last : Int} (h : DocOk R last) : 1 ≤ last := by
  obtain ⟨n, hn, e, _⟩ := h.root
  have := h.top n hn
  omega
theorem DocOk.ins {R : List RN} {last : Int} (h : DocOk R last) {rk : Int → Nat} (hU : Up R rk) {k : Nat} {bf pa : Int} (hk : k < R.length) (h1 : R[k].id ≠ 1) (hb : bf = 0 ∨ ∃ i, i < R.length ∧ idAt R i = bf) (hpa : ∃ n, n ∈ R ∧ n.id = pa) (hin : inP R (rk pa + 1) pa R[k].id = false) :
    DocOk (insP R { R[k] with par := pa } k bf) last := by
  have h0 := h.ids.pos _ (List.getElem_mem hk)
  have hno := inP_no hU h.ids (other := R[k].id) (by omega) (rk pa + 1) pa (.inr hpa) (.inr (by omega)) hin
  have hmem := insP_mem (n := { R[k] with par := pa }) h.ids hk hb
  have hperm := insP_perm (n := { R[k] with par := pa }) h.ids hk hb
  refine ⟨insP_ids h.ids hk hb rfl, insP_up hU h.ids hk hb hpa hno, fun n hn => ?_, ?_⟩
  · rcases hmem n hn with hn | rfl
    · exact h.top n hn
    · exact h.top R[k] (List.getElem_mem hk)
  · obtain ⟨n, hn, e⟩ := h.root
    rcases List.mem_append.1 (hperm.2.mem_iff.1 hn) with hm | hm
    · exact ⟨n, hperm.1.mem_iff.2 (List.mem_append.2 (.inl hm)), e⟩
    · have := List.mem_singleton.1 hm
      subst this
      exact absurd e.1 h1
theorem DocOk.put {R : List RN} {last : Int} (h : DocOk R last) {k : Nat} {n : RN} (hk : k < R.length) (hn : n.id = R[k].id) (hp : n.par = R[k].par) : DocOk (R.set k n) last := by
  obtain ⟨rk, hU⟩ := h.up
  refine ⟨set_ids h.ids hk hn, ⟨rk, set_up hU hk hn hp⟩, fun m hm => ?_, ?_⟩
  · rcases List.mem_or_eq_of_mem_set hm with hm | rfl
    · exact h.top m hm
    · rw [hn]; exact h.top _ (List.getElem_mem hk)
  · obtain ⟨m, hm, e⟩ := h.root
    obtain ⟨i, hi, rfl⟩ := List.getElem_of_mem hm
    by_cases hik : i = k
    · subst hik
      exact ⟨n, List.mem_set (by simpa using hi) n, by rw [hn]; exact e.1, by rw [hp]; exact e.2⟩
    · refine ⟨R[i], List.mem_iff_getElem.2 ⟨i, by simpa using hi, ?_⟩, e⟩
      rw [List.getElem_set_ne (fun x => hik x.symm)]
theorem DocOk.more {R : List RN} {last : Int} (h : DocOk R last) {n : RN} (hn : last < n.id) (hp : n.par = 0) : DocOk (R ++ [n]) n.id := by
  obtain ⟨rk, hU⟩ := h.up
  have := h.last_pos
  refine ⟨more_ids h.ids (by omega) (fun m hm => by have := h.top m hm; omega), ⟨rk, more_up hU hp⟩, fun m hm => ?_, ?_⟩
  · rcases List.mem_append.1 hm with hm | hm
    · have := h.top m hm; omega
    · rw [List.mem_singleton.1 hm]; omega
  · obtain ⟨m, hm, e⟩ := h.root
    exact ⟨m, List.mem_append.2 (.inl hm), e⟩
theorem root_stays {R : List RN} {last : Int} (h : DocOk R last) {f k : Nat} {d : Int} (hf : fitP R f k) (hk : k < R.length) (hne : R[k].id ≠ 1) : ∀ i, (hi : i < R.length) → R[i].id = 1 → goneB (walkP R f k d) i = false := by
  intro i hi e
  have hp : R[i].par = 0 := by
    obtain ⟨m, hm, e1, e2⟩ := h.root
    obtain ⟨j, hj, rfl⟩ := List.getElem_of_mem hm
    have := h.ids.inj i j hi hj (e.trans e1.symm)
    subst this
    exact e2
  cases hg : goneB (walkP R f k d) i with
  | false => rfl
  | true =>
    obtain ⟨d', hd⟩ := goneB_iff.1 hg
    obtain ⟨_, m, hm⟩ := walk_up h.ids f k d hf _ hd
    have e1 : idAt R i = R[i].id := by simp [idAt, hi]
    have e2 : idAt R k = R[k].id := by simp [idAt, hk]
    rw [e1, e2] at hm
    have h0 := h.ids.pos _ (List.getElem_mem hk)
    cases m with
    | zero =>
      have hm : R[i].id = R[k].id := hm
      exact absurd (hm.symm.trans e) hne
    | succ m =>
      rw [upN, upP_id h.ids hi, hp, upN_zero] at hm
      omega
theorem DocOk.rem {R : List RN} {last : Int} (h : DocOk R last) {f k : Nat} {d : Int} (hf : fitP R f k) (hk : k < R.length) (hne : R[k].id ≠ 1) : DocOk (rmP R (walkP R f k d)) last := by
  obtain ⟨rk, hU⟩ := h.up
  have hr := root_stays h (d := d) hf hk hne
  refine ⟨rmP_ids h.ids, ⟨rk, rmP_up hU h.ids hf⟩, fun m hm => ?_, ?_⟩
  · obtain ⟨i, hi, _, _, rfl⟩ := (rmTo_get (Nat.le_refl _)).1 hm
    exact h.top _ (List.getElem_mem hi)
  · obtain ⟨m, hm, e⟩ := h.root
    obtain ⟨i, hi, rfl⟩ := List.getElem_of_mem hm
    exact ⟨R[i], (rmTo_get (Nat.le_refl _)).2 ⟨i, hi, hi, hr i hi e.1, rfl⟩, e⟩
end Go.Proofs.YtobgcaemnpkbmaaGreat
namespace Go.Proofs.YtobgcaemnpkbmaaGreat
open Go.RowKit
def PN.bare (n : PN) : RN := { toPN := n, ao := none, an := 0, ac := 0 }
def RN.bare (n : RN) : RN := n.toPN.bare
def bareL (R : List RN) : List RN := R.map RN.bare
theorem bareL_length (R : List RN) : (bareL R).length = R.length := by unfold bareL; simp
theorem bareL_append (R Q : List RN) : bareL (R ++ Q) = bareL R ++ bareL Q := by unfold bareL; simp
theorem bareL_plain {R Q : List RN} (h : R.map RN.toPN = Q.map RN.toPN) : bareL R = bareL Q := by
  have : ∀ L : List RN, bareL L = (L.map RN.toPN).map PN.bare := fun L => by unfold bareL; rw [List.map_map]; rfl
  rw [this, this, h]
theorem bare_idAt (R : List RN) (i : Nat) : idAt (bareL R) i = idAt R i := by
  unfold idAt bareL
  rw [List.getElem?_map]
  cases R[i]? <;> rfl
theorem bare_parAt (R : List RN) (i : Nat) : parAt (bareL R) i = parAt R i := by
  unfold parAt bareL
  rw [List.getElem?_map]
  cases R[i]? <;> rfl
theorem bare_atP (R : List RN) (id : Int) : atP (bareL R) id = atP R id := by
  unfold atP bareL
  rw [List.findIdx?_map]
  rfl
theorem bare_kidsP (R : List RN) (id : Int) : kidsP (bareL R) id = kidsP R id := by
  unfold kidsP kidsTo
  simp only [bare_parAt, bareL_length]
theorem bare_walkP (R : List RN) : ∀ (f a : Nat) (d : Int), walkP (bareL R) f a d = walkP R f a d := by
  intro f
  induction f with
  | zero => intro a d; rfl
  | succ f ih => intro a d; rw [walkP, walkP, bare_idAt, bare_kidsP]; simp only [ih]
theorem bare_parOf (R : List RN) (id : Int) : parOf (bareL R) id = parOf R id := by
  unfold parOf; rw [bare_atP, bare_parAt]
theorem bare_one (R : List RN) (k : Nat) : bareL ((R.drop k).take 1) = ((bareL R).drop k).take 1 := by
  unfold bareL; rw [List.map_take, List.map_drop]
theorem bare_insTo (R : List RN) (n : RN) (fr : Nat) (bf : Int) : ∀ k, bareL (insTo R n fr bf k) = insTo (bareL R) n.bare fr bf k := by
  intro k
  induction k with
  | zero => rfl
  | succ k ih =>
    rw [insTo, insTo, bareL_append, bareL_append, ih, bare_idAt]
    congr 1
    · congr 1
      split <;> rfl
    · split
      · rfl
      · exact bare_one R k
theorem bare_insP (R : List RN) (n : RN) (fr : Nat) (bf : Int) : bareL (insP R n fr bf) = insP (bareL R) n.bare fr bf := by
  unfold insP
  rw [bareL_append, bare_insTo, bareL_length]
  congr 1
  split <;> rfl
theorem bare_rmTo (R : List RN) (W : List (Nat × Int)) : ∀ k, bareL (rmTo R W k) = rmTo (bareL R) W k := by
  intro k
  induction k with
  | zero => rfl
  | succ k ih =>
    rw [rmTo, rmTo, bareL_append, ih]
    congr 1
    split
    · rfl
    · exact bare_one R k
theorem bare_rmP (R : List RN) (W : List (Nat × Int)) : bareL (rmP R W) = rmP (bareL R) W := by
  unfold rmP
  rw [bare_rmTo, bareL_length]
theorem bare_set (R : List RN) (k : Nat) (n : RN) : bareL (R.set k n) = (bareL R).set k n.bare := by
  unfold bareL; rw [List.map_set]
theorem bare_mem {R : List RN} {m : RN} : m ∈ bareL R ↔ ∃ n, n ∈ R ∧ n.bare = m := by unfold bareL; exact List.mem_map
theorem bare_up {R : List RN} {rk : Int → Nat} : Up (bareL R) rk ↔ Up R rk := by
  constructor
  · intro h
    refine ⟨fun n hn => ?_, fun n hn hp => h.rank n.bare (bare_mem.2 ⟨n, hn, rfl⟩) hp⟩
    rcases h.par n.bare (bare_mem.2 ⟨n, hn, rfl⟩) with e | ⟨m, hm, e⟩
    · exact .inl e
    · obtain ⟨k, hk, rfl⟩ := bare_mem.1 hm
      exact .inr ⟨k, hk, e⟩
  · intro h
    refine ⟨fun m hm => ?_, fun m hm hp => ?_⟩
    · obtain ⟨n, hn, rfl⟩ := bare_mem.1 hm
      rcases h.par n hn with e | ⟨k, hk, e⟩
      · exact .inl e
      · exact .inr ⟨k.bare, bare_mem.2 ⟨k, hk, rfl⟩, e⟩
    · obtain ⟨n, hn, rfl⟩ := bare_mem.1 hm
      exact h.rank n hn hp
end Go.Proofs.YtobgcaemnpkbmaaGreat
namespace Go.Proofs.YtobgcaemnpkbmaaGreat
open Go.RowKit
theorem inP_yes {R : List RN} {o : Int} : ∀ (f : Nat) (x : Int), inP R f x o = true → ∃ m, upN R m x = o := by
  intro f
  induction f with
  | zero => intro x h; simp [inP] at h
  | succ f ih =>
    intro x h
    rw [inP] at h
    by_cases hz : x = 0
    · rw [if_pos hz] at h; cases h
    · rw [if_neg hz] at h
      by_cases ho : x = o
      · exact ⟨0, ho⟩
      · rw [if_neg ho] at h
        obtain ⟨m, e⟩ := ih _ h
        exact ⟨m + 1, by rw [upN]; unfold upP; rw [if_neg hz]; exact e⟩
def WithinP (R : List RN) (x o : Int) : Prop := ∃ m, upN R m x = o
theorem inP_iff {R : List RN} {rk : Int → Nat} (hU : Up R rk) (hI : Ids R) {x o : Int} (h0 : o ≠ 0) (hx : ∃ n, n ∈ R ∧ n.id = x) : inP R (rk x + 1) x o = true ↔ WithinP R x o := by
  constructor
  · exact inP_yes _ _
  · rintro ⟨m, e⟩
    cases hi : inP R (rk x + 1) x o with
    | true => rfl
    | false => exact absurd e (inP_no hU hI h0 _ x (.inr hx) (.inr (by omega)) hi m)
theorem inP_not {R : List RN} {rk : Int → Nat} (hU : Up R rk) (hI : Ids R) {x o : Int} (h0 : o ≠ 0) (hx : ∃ n, n ∈ R ∧ n.id = x) : inP R (rk x + 1) x o = false ↔ ¬ WithinP R x o := by
  rw [← inP_iff hU hI h0 hx]; simp
theorem bare_upN (R : List RN) : ∀ (m : Nat) (x : Int), upN (bareL R) m x = upN R m x := by
  intro m
  induction m with
  | zero => intro x; rfl
  | succ m ih => intro x; rw [upN, upN, ih]; unfold upP; rw [bare_parOf]
theorem bare_within (R : List RN) (x o : Int) : WithinP (bareL R) x o ↔ WithinP R x o := by
  unfold WithinP; simp only [bare_upN]
theorem bare_get {R : List RN} {i : Nat} (h : i < (bareL R).length) : (bareL R)[i] = (R[i]'(by rw [bareL_length] at h; exact h)).bare := List.getElem_map (l := R) RN.bare
theorem bare_ids {R : List RN} : Ids (bareL R) ↔ Ids R := by
  constructor
  · intro h
    refine ⟨fun n hn => h.pos n.bare (bare_mem.2 ⟨n, hn, rfl⟩), fun i j hi hj e => h.inj i j (by rw [bareL_length]; exact hi) (by rw [bareL_length]; exact hj) ?_⟩
    rw [bare_get, bare_get]
    exact e
  · intro h
    refine ⟨fun m hm => ?_, fun i j hi hj e => h.inj i j (by rw [bareL_length] at hi; exact hi) (by rw [bareL_length] at hj; exact hj) ?_⟩
    · obtain ⟨n, hn, rfl⟩ := bare_mem.1 hm
      exact h.pos n hn
    · rw [bare_get, bare_get] at e
      exact e
end Go.Proofs.YtobgcaemnpkbmaaGreat
namespace Go.Proofs.YtobgcaemnpkbmaaGreat
open Go.RowKit
def kidIds (R : List RN) (q : Int) : List Int := (R.filter fun n => n.par == q).map (·.id)
theorem kidIds_append (R Q : List RN) (q : Int) : kidIds (R ++ Q) q = kidIds R q ++ kidIds Q q := by unfold kidIds; rw [List.filter_append, List.map_append]
theorem kidIds_one (n : RN) (q : Int) : kidIds [n] q = if n.par = q then [n.id] else [] := by
  unfold kidIds
  by_cases h : n.par = q
  · simp [h]
  · simp [h]
theorem kidIds_nil (q : Int) : kidIds [] q = [] := rfl
theorem kidIds_cons (n : RN) (R : List RN) (q : Int) : kidIds (n :: R) q = (if n.par = q then [n.id] else []) ++ kidIds R q := by
  rw [show n :: R = [n] ++ R from rfl, kidIds_append, kidIds_one]
theorem kidIds_mem {R : List RN} {q i : Int} : i ∈ kidIds R q ↔ ∃ n, n ∈ R ∧ n.par = q ∧ n.id = i := by
  unfold kidIds
  simp only [List.mem_map, List.mem_filter, beq_iff_eq]
  constructor
  · rintro ⟨n, ⟨h1, h2⟩, h3⟩; exact ⟨n, h1, h2, h3⟩
  · rintro ⟨n, h1, h2, h3⟩; exact ⟨n, ⟨h1, h2⟩, h3⟩
theorem kidIds_nodup {R : List RN} (h : Ids R) (q : Int) : (kidIds R q).Nodup := by
  unfold kidIds
  exact (List.filter_sublist.map _).nodup h.nodup
theorem kidIds_length (R : List RN) (q : Int) : (kidIds R q).length ≤ R.length := by
  unfold kidIds
  rw [List.length_map]
  exact List.length_filter_le _ _
theorem take_one {R : List RN} {k : Nat} (h : k < R.length) : R.take (k + 1) = R.take k ++ [R[k]] := by rw [List.take_succ_eq_append_getElem h]
theorem kids_ids (R : List RN) {q : Int} (hq : q ≠ 0) : (kidsP R q).map (idAt R) = kidIds R q := by
  have h : ∀ k, k ≤ R.length → (kidsTo R q k).map (idAt R) = kidIds (R.take k) q := by
    intro k
    induction k with
    | zero => intro _; rfl
    | succ k ih =>
      intro hk
      have hk' : k < R.length := by omega
      rw [take_one hk', kidIds_append, kidIds_one, ← ih (by omega)]
      by_cases hp : parAt R k = q
      · rw [kidsTo_hit hp, List.map_append]
        rw [parAt_lt hk'] at hp
        rw [if_pos hp]
        simp [idAt_lt hk']
      · rw [kidsTo_miss hp]
        rw [parAt_lt hk'] at hp
        rw [if_neg hp, List.append_nil]
  unfold kidsP
  rw [if_neg hq, h R.length (Nat.le_refl _), List.take_length]
theorem split_at {R : List RN} {k : Nat} (h : k < R.length) : R = R.take k ++ [R[k]] ++ R.drop (k + 1) := by
  rw [← take_one h, List.take_append_drop]
theorem set_split {R : List RN} {k : Nat} (n : RN) (h : k < R.length) : R.set k n = R.take k ++ [n] ++ R.drop (k + 1) := by
  rw [List.set_eq_take_append_cons_drop, if_pos h]; simp
theorem kids_put {R : List RN} {k : Nat} {n : RN} (hk : k < R.length) (h1 : n.id = R[k].id) (h2 : n.par = R[k].par) (q : Int) : kidIds (R.set k n) q = kidIds R q := by
  conv => rhs; rw [split_at hk]
  rw [set_split n hk]
  simp only [kidIds_append, kidIds_one, h1, h2]
def looseP (R : List RN) (k : Nat) : List RN := match R[k]? with | some x => R.set k { x with par := 0 } | none => R
theorem looseP_lt {R : List RN} {k : Nat} (h : k < R.length) : looseP R k = R.set k { R[k] with par := 0 } := by unfold looseP; rw [List.getElem?_eq_getElem h]
theorem loose_other {R : List RN} {k : Nat} (hk : k < R.length) {q : Int} (hq : q ≠ 0) (hne : R[k].par ≠ q) : kidIds (looseP R k) q = kidIds R q := by
  rw [looseP_lt hk]
  conv => rhs; rw [split_at hk]
  rw [set_split _ hk]
  simp only [kidIds_append, kidIds_one]
  rw [if_neg (fun e : (0 : Int) = q => hq e.symm), if_neg hne]
theorem loose_kids {R : List RN} {k : Nat} (hI : Ids R) (hk : k < R.length) {q : Int} (hq : q ≠ 0) (he : R[k].par = q) :
    ∃ i, i < (kidIds R q).length ∧ (kidIds R q)[i]? = some R[k].id ∧ (∀ j, j < i → (kidIds R q)[j]? ≠ some R[k].id) ∧ kidIds (looseP R k) q = (kidIds R q).take i ++ (kidIds R q).drop (i + 1) := by
  have e : kidIds R q = kidIds (R.take k) q ++ [R[k].id] ++ kidIds (R.drop (k + 1)) q := by
    conv => lhs; rw [split_at hk]
    rw [kidIds_append, kidIds_append, kidIds_one, if_pos he]
  have e2 : kidIds (looseP R k) q = kidIds (R.take k) q ++ kidIds (R.drop (k + 1)) q := by
    rw [looseP_lt hk, set_split _ hk]
    simp only [kidIds_append, kidIds_one]
    rw [if_neg (fun e : (0 : Int) = q => hq e.symm), List.append_nil]
  have hnd := kidIds_nodup hI q
  rw [e] at hnd
  refine ⟨(kidIds (R.take k) q).length, ?_, ?_, fun j hj hx => ?_, ?_⟩
  · rw [e]; simp
  · rw [e, List.append_assoc, List.getElem?_append_right (Nat.le_refl _), Nat.sub_self]; rfl
  · rw [e, List.append_assoc, List.getElem?_append_left hj] at hx
    rw [List.append_assoc] at hnd
    exact (List.nodup_append.1 hnd).2.2 _ (List.mem_of_getElem? hx) _ (by simp) rfl
  · rw [e2, e, List.append_assoc, List.take_left]
    generalize kidIds (R.drop (k + 1)) q = Y
    generalize kidIds (R.take k) q = X
    rw [← List.drop_drop, List.drop_left]
    rfl
theorem insTo_other {R : List RN} {n : RN} {k : Nat} {bf q : Int} (hk : k < R.length) (hp : R[k].par ≠ q) (hq : n.par ≠ q) : ∀ j, j ≤ R.length → kidIds (insTo R n k bf j) q = kidIds (R.take j) q := by
  intro j
  induction j with
  | zero => intro _; rfl
  | succ j ih =>
    intro hj
    have hj' : j < R.length := by omega
    rw [insTo, kidIds_append, kidIds_append, ih (by omega), take_one hj', kidIds_append]
    have e1 : kidIds (if bf ≠ 0 ∧ idAt R j = bf then [n] else []) q = [] := by
      split
      · rw [kidIds_one, if_neg hq]
      · rfl
    rw [e1, List.append_nil, drop_one hj']
    by_cases e : j = k
    · subst e
      rw [if_pos rfl, kidIds_nil, kidIds_one, if_neg hp]
    · rw [if_neg e]
theorem ins_other {R : List RN} {n : RN} {k : Nat} {bf q : Int} (hk : k < R.length) (hp : R[k].par ≠ q) (hq : n.par ≠ q) : kidIds (insP R n k bf) q = kidIds R q := by
  unfold insP
  rw [kidIds_append, insTo_other hk hp hq _ (Nat.le_refl _), List.take_length]
  split
  · rw [kidIds_one, if_neg hq, List.append_nil]
  · rw [kidIds_nil, List.append_nil]
theorem insTo_none {R : List RN} {n : RN} {k : Nat} {bf q : Int} (hk : k < R.length) (hp : R[k].par ≠ q) : ∀ j, j ≤ R.length → (∀ i, i < j → bf = 0 ∨ idAt R i ≠ bf) → kidIds (insTo R n k bf j) q = kidIds (R.take j) q := by
  intro j
  induction j with
  | zero => intro _ _; rfl
  | succ j ih =>
    intro hj hb
    have hj' : j < R.length := by omega
    rw [insTo, kidIds_append, kidIds_append, ih (by omega) (fun i hi => hb i (by omega)), take_one hj', kidIds_append]
    rw [if_neg (fun h : bf ≠ 0 ∧ idAt R j = bf => by rcases hb j (by omega) with e | e; exact h.1 e; exact e h.2), kidIds_nil, List.append_nil, drop_one hj']
    by_cases e : j = k
    · subst e
      rw [if_pos rfl, kidIds_nil, kidIds_one, if_neg hp]
    · rw [if_neg e]
theorem ins_last {R : List RN} {n : RN} {k : Nat} {q : Int} (hk : k < R.length) (hp : R[k].par ≠ q) (hn : n.par = q) : kidIds (insP R n k 0) q = kidIds R q ++ [n.id] := by
  unfold insP
  rw [kidIds_append, insTo_none hk hp _ (Nat.le_refl _) (fun _ _ => .inl rfl), List.take_length, if_pos rfl, kidIds_one, if_pos hn]
theorem insTo_past {R : List RN} (hI : Ids R) {n : RN} {k b : Nat} {bf q : Int} (hk : k < R.length) (hp : R[k].par ≠ q) (hn : n.par = q) (hb : b < R.length) (hbf : idAt R b = bf) (h0 : bf ≠ 0) : ∀ j, j ≤ R.length → b < j → kidIds (insTo R n k bf j) q = kidIds (R.take b) q ++ [n.id] ++ kidIds ((R.take j).drop b) q := by
  intro j
  induction j with
  | zero => intro _ h; exact absurd h (Nat.not_lt_zero _)
  | succ j ih =>
    intro hj hbj
    have hj' : j < R.length := by omega
    have hlast : kidIds (if j = k then [] else (R.drop j).take 1) q = kidIds [R[j]] q := by
      rw [drop_one hj']
      by_cases e : j = k
      · subst e
        rw [if_pos rfl, kidIds_nil, kidIds_one, if_neg hp]
      · rw [if_neg e]
    have hne : ∀ i, i < R.length → i ≠ b → idAt R i ≠ bf := fun i hi hib e => by
      rw [← hbf, idAt_lt hi, idAt_lt hb] at e
      exact hib (hI.inj i b hi hb e)
    by_cases e : j = b
    · subst e
      rw [insTo, kidIds_append, kidIds_append, insTo_none hk hp _ (by omega) (fun i hi => .inr (hne i (by omega) (by omega))), hlast, if_pos ⟨h0, hbf⟩, kidIds_one n, if_pos hn, take_one hj']
      congr 1
      rw [List.drop_append, List.drop_of_length_le (by rw [List.length_take]; omega), List.nil_append, List.length_take, Nat.min_eq_left (by omega), Nat.sub_self]
      rfl
    · rw [insTo, kidIds_append, kidIds_append, ih (by omega) (by omega), hlast, if_neg (fun h : bf ≠ 0 ∧ idAt R j = bf => hne j hj' e h.2), kidIds_nil, List.append_nil, take_one hj', List.drop_append_of_le_length (by rw [List.length_take]; omega), kidIds_append]
      simp
theorem ins_before {R : List RN} (hI : Ids R) {n : RN} {k b : Nat} {bf q : Int} (hk : k < R.length) (hp : R[k].par ≠ q) (hn : n.par = q) (hb : b < R.length) (hbf : R[b].id = bf) (hbp : R[b].par = q) (h0 : bf ≠ 0) :
    ∃ i, i < (kidIds R q).length ∧ (kidIds R q)[i]? = some bf ∧ (∀ j, j < i → (kidIds R q)[j]? ≠ some bf) ∧ kidIds (insP R n k bf) q = (kidIds R q).take i ++ [n.id] ++ (kidIds R q).drop i := by
  have hbf' : idAt R b = bf := by rw [idAt_lt hb]; exact hbf
  have e0 : kidIds R q = kidIds (R.take b) q ++ kidIds (R.drop b) q := by rw [← kidIds_append, List.take_append_drop]
  have e1 : kidIds (R.drop b) q = [bf] ++ kidIds (R.drop (b + 1)) q := by
    rw [List.drop_eq_getElem_cons hb, kidIds_cons, if_pos hbp, hbf]
  have e2 : kidIds (insP R n k bf) q = kidIds (R.take b) q ++ [n.id] ++ kidIds (R.drop b) q := by
    unfold insP
    rw [if_neg h0, List.append_nil, insTo_past hI hk hp hn hb hbf' h0 _ (Nat.le_refl _) hb, List.take_length]
  have hnd := kidIds_nodup hI q
  rw [e0, e1] at hnd
  refine ⟨(kidIds (R.take b) q).length, ?_, ?_, fun j hj hx => ?_, ?_⟩
  · rw [e0, e1]; simp
  · rw [e0, e1, List.getElem?_append_right (Nat.le_refl _), Nat.sub_self]; rfl
  · rw [e0, List.getElem?_append_left hj] at hx
    exact (List.nodup_append.1 hnd).2.2 _ (List.mem_of_getElem? hx) _ (by simp) rfl
  · rw [e2, e0, List.take_left, List.drop_left]
theorem ins_loose {R : List RN} {n : RN} {k : Nat} {bf : Int} (hk : k < R.length) : insP (looseP R k) n k bf = insP R n k bf := by
  have hl : (looseP R k).length = R.length := by rw [looseP_lt hk, List.length_set]
  have hid : ∀ j, idAt (looseP R k) j = idAt R j := fun j => by
    rw [looseP_lt hk]
    unfold idAt
    rw [List.getElem?_set]
    by_cases e : k = j
    · subst e; rw [if_pos rfl, if_pos hk, List.getElem?_eq_getElem hk]
    · rw [if_neg e]
  have h : ∀ j, j ≤ R.length → insTo (looseP R k) n k bf j = insTo R n k bf j := by
    intro j
    induction j with
    | zero => intro _; rfl
    | succ j ih =>
      intro hj
      rw [insTo, insTo, ih (by omega), hid]
      congr 1
      by_cases e : j = k
      · rw [if_pos e, if_pos e]
      · rw [if_neg e, if_neg e, drop_one (by omega), drop_one (by omega)]
        congr 1
        rw [List.getElem_of_eq (looseP_lt hk), List.getElem_set_ne (fun h => e h.symm)]
  unfold insP
  rw [hl, h _ (Nat.le_refl _)]
end Go.Proofs.YtobgcaemnpkbmaaGreat
