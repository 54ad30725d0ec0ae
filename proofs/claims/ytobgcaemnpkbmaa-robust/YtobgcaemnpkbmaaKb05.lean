/- Theo2 Theo3 Theo4 Theo5 Theo6 Theo7 -/
import Derived.Test.YtobgcaemnpkbmaaKb04
namespace Go.Proofs.Ytobgcaemnpkbmaa
open Go.RowKit
theorem Ids.of_nodup {R : List RN} (hp : ∀ n, n ∈ R → 0 < n.id) (h : (R.map (·.id)).Nodup) : Ids R := by
  refine ⟨hp, fun i j hi hj e => ?_⟩
  have hpw := List.pairwise_iff_getElem.1 h
  rcases Nat.lt_trichotomy i j with hij | hij | hij
  · exact absurd (by rw [List.getElem_map, List.getElem_map]; exact e) (hpw i j (by simpa using hi) (by simpa using hj) hij)
  · exact hij
  · exact absurd (by rw [List.getElem_map, List.getElem_map]; exact e.symm) (hpw j i (by simpa using hj) (by simpa using hi) hij)
theorem Ids.nodup {R : List RN} (h : Ids R) : (R.map (·.id)).Nodup := by
  refine List.pairwise_iff_getElem.2 fun i j hi hj hij e => ?_
  have := h.inj i j (by simpa using hi) (by simpa using hj) (by simpa using e)
  omega
def restTo (R : List RN) (fr : Nat) : Nat → List RN
  | 0 => []
  | k + 1 => restTo R fr k ++ (if k = fr then [] else (R.drop k).take 1)
theorem rest_perm {R : List RN} {fr : Nat} : ∀ k, k ≤ R.length → (R.take k).Perm (restTo R fr k ++ (if h : fr < k ∧ fr < R.length then [R[fr]'h.2] else [])) := by
  intro k
  induction k with
  | zero => intro _; simp [restTo]
  | succ k ih =>
    intro hk
    have ih := ih (by omega)
    rw [List.take_succ_eq_append_getElem (by omega), restTo]
    by_cases h : k = fr
    · subst h
      rw [if_pos rfl, dif_pos ⟨by omega, by omega⟩]
      rw [dif_neg (by omega), List.append_nil] at ih
      rw [List.append_nil]
      exact ih.append_right [R[k]]
    · rw [if_neg h, drop_one (by omega)]
      by_cases h2 : fr < k
      · rw [dif_pos ⟨by omega, by omega⟩] at ih
        rw [dif_pos ⟨by omega, by omega⟩]
        refine (ih.append_right [R[k]]).trans ?_
        rw [List.append_assoc, List.append_assoc]
        exact List.Perm.append_left _ (List.perm_append_comm)
      · rw [dif_neg (by omega), List.append_nil] at ih
        rw [dif_neg (by omega), List.append_nil]
        exact ih.append_right [R[k]]
theorem ins_perm {R : List RN} {n : RN} {fr : Nat} {bf : Int} (hI : Ids R) : ∀ k, k ≤ R.length → (insTo R n fr bf k).Perm (restTo R fr k ++ (if bf ≠ 0 ∧ ∃ i, i < k ∧ idAt R i = bf then [n] else [])) := by
  intro k
  induction k with
  | zero => intro _; simp [insTo, restTo]
  | succ k ih =>
    intro hk
    have ih := ih (by omega)
    rw [insTo, restTo]
    by_cases hb : bf ≠ 0 ∧ idAt R k = bf
    · have hno : ¬ (bf ≠ 0 ∧ ∃ i, i < k ∧ idAt R i = bf) := fun ⟨_, i, hi, e⟩ => by
        have := hI.inj i k (by omega) (by omega) (by rw [← idAt_lt (by omega), ← idAt_lt (by omega), e, hb.2])
        omega
      rw [if_neg hno, List.append_nil] at ih
      have hyes : bf ≠ 0 ∧ ∃ i, i < k + 1 ∧ idAt R i = bf := ⟨hb.1, k, by omega, hb.2⟩
      rw [if_pos hb, if_pos hyes, List.append_assoc, List.append_assoc]
      exact ih.append List.perm_append_comm
    · rw [if_neg hb, List.append_nil]
      have he : (bf ≠ 0 ∧ ∃ i, i < k + 1 ∧ idAt R i = bf) ↔ (bf ≠ 0 ∧ ∃ i, i < k ∧ idAt R i = bf) := by
        constructor
        · rintro ⟨h0, i, hi, e⟩
          refine ⟨h0, i, ?_, e⟩
          by_cases hik : i = k
          · subst hik; exact absurd ⟨h0, e⟩ hb
          · omega
        · rintro ⟨h0, i, hi, e⟩
          exact ⟨h0, i, by omega, e⟩
      simp only [he]
      refine (ih.append_right _).trans ?_
      rw [List.append_assoc, List.append_assoc]
      exact List.Perm.append_left _ List.perm_append_comm
theorem insP_perm {R : List RN} {n : RN} {fr : Nat} {bf : Int} (hI : Ids R) (hfr : fr < R.length) (hb : bf = 0 ∨ ∃ i, i < R.length ∧ idAt R i = bf) :
    (insP R n fr bf).Perm (restTo R fr R.length ++ [n]) ∧ R.Perm (restTo R fr R.length ++ [R[fr]]) := by
  have h1 := rest_perm (R := R) (fr := fr) R.length (Nat.le_refl _)
  rw [List.take_length, dif_pos ⟨hfr, hfr⟩] at h1
  refine ⟨?_, h1⟩
  have h2 := ins_perm (n := n) (fr := fr) (bf := bf) hI R.length (Nat.le_refl _)
  unfold insP
  by_cases h0 : bf = 0
  · rw [if_neg (fun h => h.1 h0), List.append_nil] at h2
    rw [if_pos h0]
    exact h2.append_right [n]
  · rw [if_pos ⟨h0, hb.resolve_left h0⟩] at h2
    rw [if_neg h0, List.append_nil]
    exact h2
theorem insP_length {R : List RN} {n : RN} {fr : Nat} {bf : Int} (hI : Ids R) (hfr : fr < R.length) (hb : bf = 0 ∨ ∃ i, i < R.length ∧ idAt R i = bf) : (insP R n fr bf).length = R.length := by
  have h := insP_perm (n := n) hI hfr hb
  have h1 := h.1.length_eq
  have h2 := h.2.length_eq
  rw [List.length_append] at h1 h2
  simp at h1 h2
  omega
theorem insP_mem {R : List RN} {n : RN} {fr : Nat} {bf : Int} (hI : Ids R) (hfr : fr < R.length) (hb : bf = 0 ∨ ∃ i, i < R.length ∧ idAt R i = bf) : ∀ m, m ∈ insP R n fr bf → m ∈ R ∨ m = n := by
  intro m hm
  have h := insP_perm (n := n) hI hfr hb
  rcases List.mem_append.1 (h.1.mem_iff.1 hm) with hm | hm
  · exact .inl (h.2.mem_iff.2 (List.mem_append.2 (.inl hm)))
  · exact .inr (List.mem_singleton.1 hm)
theorem insP_ids {R : List RN} {n : RN} {fr : Nat} {bf : Int} (hI : Ids R) (hfr : fr < R.length) (hb : bf = 0 ∨ ∃ i, i < R.length ∧ idAt R i = bf) (hn : n.id = R[fr].id) : Ids (insP R n fr bf) := by
  have h := insP_perm (n := n) hI hfr hb
  refine Ids.of_nodup (fun m hm => ?_) ?_
  · rcases insP_mem hI hfr hb m hm with hm | rfl
    · exact hI.pos m hm
    · rw [hn]; exact hI.pos _ (List.getElem_mem hfr)
  · have e1 := (h.1.map (·.id)).nodup_iff
    have e2 := (h.2.map (·.id)).nodup_iff
    rw [List.map_append] at e1 e2
    simp only [List.map_cons, List.map_nil, hn] at e1 e2
    exact e1.2 (e2.1 hI.nodup)
end Go.Proofs.Ytobgcaemnpkbmaa
namespace Go.Proofs.Ytobgcaemnpkbmaa
open Go.RowKit
theorem restTo_mem {R : List RN} {fr : Nat} : ∀ {k : Nat} {m : RN}, k ≤ R.length → m ∈ restTo R fr k → ∃ i, ∃ hi : i < R.length, i ≠ fr ∧ m = R[i] := by
  intro k
  induction k with
  | zero => intro m _ h; simp [restTo] at h
  | succ k ih =>
    intro m hk h
    rw [restTo] at h
    rcases List.mem_append.1 h with h | h
    · exact ih (by omega) h
    · by_cases e : k = fr
      · rw [if_pos e] at h; simp at h
      · rw [if_neg e, drop_one (by omega)] at h
        exact ⟨k, by omega, e, List.mem_singleton.1 h⟩
theorem inP_no {R : List RN} {rk : Int → Nat} (hU : Up R rk) (hI : Ids R) {other : Int} (h0 : other ≠ 0) : ∀ (f : Nat) (x : Int), (x = 0 ∨ ∃ n, n ∈ R ∧ n.id = x) → (x = 0 ∨ rk x < f) → inP R f x other = false → ∀ m, upN R m x ≠ other := by
  intro f
  induction f with
  | zero =>
    intro x _ hf _ m
    rcases hf with rfl | hf
    · rw [upN_zero]; exact fun e => h0 e.symm
    · omega
  | succ f ih =>
    intro x hx hf h m
    by_cases hz : x = 0
    · subst hz; rw [upN_zero]; exact fun e => h0 e.symm
    · rw [inP, if_neg hz] at h
      by_cases ho : x = other
      · rw [if_pos ho] at h; cases h
      · rw [if_neg ho] at h
        cases m with
        | zero => exact ho
        | succ m =>
          rw [upN]
          obtain ⟨n, hn, rfl⟩ := hx.resolve_left hz
          obtain ⟨i, hi, rfl⟩ := List.getElem_of_mem hn
          have e1 : parOf R R[i].id = R[i].par := by have := upP_id hI hi; unfold upP at this; rwa [if_neg hz] at this
          rw [upP_id hI hi]
          rw [e1] at h
          refine ih R[i].par (hU.par _ (List.getElem_mem hi)) ?_ h m
          by_cases hp : R[i].par = 0
          · exact .inl hp
          · right
            have := hU.rank R[i] (List.getElem_mem hi) hp
            have := hf.resolve_left hz
            omega
theorem insP_up {R : List RN} {rk : Int → Nat} (hU : Up R rk) (hI : Ids R) {fr : Nat} {bf pa : Int} (hfr : fr < R.length) (hb : bf = 0 ∨ ∃ i, i < R.length ∧ idAt R i = bf) (hpa : ∃ n, n ∈ R ∧ n.id = pa) (hno : ∀ m, upN R m pa ≠ R[fr].id) :
    ∃ rk', Up (insP R { R[fr] with par := pa } fr bf) rk' := by
  classical
  have hperm := insP_perm (n := { R[fr] with par := pa }) hI hfr hb
  have hin : ∀ x, (∃ n, n ∈ R ∧ n.id = x) → ∃ n, n ∈ insP R { R[fr] with par := pa } fr bf ∧ n.id = x := by
    rintro x ⟨n, hn, rfl⟩
    rcases List.mem_append.1 (hperm.2.mem_iff.1 hn) with h | h
    · exact ⟨n, hperm.1.mem_iff.2 (List.mem_append.2 (.inl h)), rfl⟩
    · have := List.mem_singleton.1 h
      subst this
      exact ⟨{ R[fr] with par := pa }, hperm.1.mem_iff.2 (List.mem_append.2 (.inr (by simp))), rfl⟩
  have hmem : ∀ m, m ∈ insP R { R[fr] with par := pa } fr bf → (∃ i, ∃ hi : i < R.length, i ≠ fr ∧ m = R[i]) ∨ m = { R[fr] with par := pa } := by
    intro m hm
    rcases List.mem_append.1 (hperm.1.mem_iff.1 hm) with h | h
    · exact .inl (restTo_mem (Nat.le_refl _) h)
    · exact .inr (List.mem_singleton.1 h)
  refine ⟨fun x => if ∃ j, upN R j x = R[fr].id then rk x + rk pa + 1 else rk x, fun m hm => ?_, fun m hm hp => ?_⟩
  · rcases hmem m hm with ⟨i, hi, _, rfl⟩ | rfl
    · exact (hU.par _ (List.getElem_mem hi)).imp id (hin _)
    · exact .inr (hin pa hpa)
  · rcases hmem m hm with ⟨i, hi, hne, rfl⟩ | rfl
    · have hr := hU.rank _ (List.getElem_mem hi) hp
      have hiff : (∃ j, upN R j R[i].par = R[fr].id) ↔ ∃ j, upN R j R[i].id = R[fr].id := by
        constructor
        · rintro ⟨j, e⟩
          exact ⟨j + 1, by rw [upN, upP_id hI hi]; exact e⟩
        · rintro ⟨j, e⟩
          cases j with
          | zero =>
            have e : R[i].id = R[fr].id := e
            exact absurd (hI.inj i fr hi hfr e) hne
          | succ j => exact ⟨j, by rw [upN, upP_id hI hi] at e; exact e⟩
      simp only [hiff]
      split <;> omega
    · have h1 : ¬ ∃ j, upN R j pa = R[fr].id := fun ⟨j, e⟩ => hno j e
      have h2 : ∃ j, upN R j R[fr].id = R[fr].id := ⟨0, rfl⟩
      show (if ∃ j, upN R j pa = R[fr].id then _ else _) < (if ∃ j, upN R j R[fr].id = R[fr].id then _ else _)
      rw [if_neg h1, if_pos h2]
      show rk pa < rk R[fr].id + rk pa + 1
      omega
theorem walk_closed {R : List RN} : ∀ (f a : Nat) (d : Int), fitP R f a → ∀ x, x ∈ walkP R f a d → ∀ i, i ∈ kidsP R (idAt R x.1) → ∃ d', (i, d') ∈ walkP R f a d := by
  intro f
  induction f with
  | zero => intro a d h; exact absurd h (by simp [fitP])
  | succ f ih =>
    intro a d h x hx i hi
    rw [walkP] at hx ⊢
    rcases List.mem_cons.1 hx with rfl | hx
    · refine ⟨d + 1, List.mem_cons.2 (.inr (List.mem_flatMap.2 ⟨i, hi, ?_⟩))⟩
      have := h.2 i hi
      cases f with
      | zero => exact absurd this (by simp [fitP])
      | succ f => rw [walkP]; simp
    · obtain ⟨k, hk, hx⟩ := List.mem_flatMap.1 hx
      obtain ⟨d', hd'⟩ := ih k (d + 1) (h.2 k hk) x hx i hi
      exact ⟨d', List.mem_cons.2 (.inr (List.mem_flatMap.2 ⟨k, hk, hd'⟩))⟩
theorem goneB_iff {W : List (Nat × Int)} {i : Nat} : goneB W i = true ↔ ∃ d, (i, d) ∈ W := by
  unfold goneB
  rw [List.any_eq_true]
  constructor
  · rintro ⟨⟨a, d⟩, h, e⟩
    have e : a = i := by simpa using e
    subst e
    exact ⟨d, h⟩
  · rintro ⟨d, h⟩
    exact ⟨(i, d), h, by simp⟩
theorem rmTo_get {R : List RN} {W : List (Nat × Int)} : ∀ {k : Nat} {m : RN}, k ≤ R.length → (m ∈ rmTo R W k ↔ ∃ i, ∃ hi : i < R.length, i < k ∧ goneB W i = false ∧ m = R[i]) := by
  intro k
  induction k with
  | zero => intro m _; simp [rmTo]
  | succ k ih =>
    intro m hk
    rw [rmTo, List.mem_append, ih (by omega)]
    constructor
    · rintro (⟨i, hi, h1, h2, h3⟩ | h)
      · exact ⟨i, hi, by omega, h2, h3⟩
      · cases hg : goneB W k with
        | true => rw [hg] at h; simp at h
        | false =>
          rw [hg, if_neg (by simp), drop_one (by omega)] at h
          exact ⟨k, by omega, by omega, hg, List.mem_singleton.1 h⟩
    · rintro ⟨i, hi, h1, h2, h3⟩
      by_cases hik : i = k
      · subst hik
        right
        rw [h2, if_neg (by simp), drop_one hi]
        exact List.mem_singleton.2 h3
      · exact .inl ⟨i, hi, by omega, h2, h3⟩
theorem rmTo_sub (R : List RN) (W : List (Nat × Int)) : ∀ k, k ≤ R.length → (rmTo R W k).Sublist (R.take k) := by
  intro k
  induction k with
  | zero => intro _; simp [rmTo]
  | succ k ih =>
    intro hk
    have hk' : k < R.length := by omega
    rw [rmTo, List.take_succ_eq_append_getElem hk']
    refine (ih (by omega)).append ?_
    split
    · exact List.nil_sublist _
    · rw [drop_one hk']; exact List.Sublist.refl _
theorem rmP_ids {R : List RN} {W : List (Nat × Int)} (hI : Ids R) : Ids (rmP R W) := by
  have h := rmTo_sub R W R.length (Nat.le_refl _)
  rw [List.take_length] at h
  exact Ids.of_nodup (fun n hn => hI.pos n (h.subset hn)) ((h.map (·.id)).nodup hI.nodup)
theorem rmP_up {R : List RN} {rk : Int → Nat} (hU : Up R rk) (_hI : Ids R) {f a : Nat} {d : Int} (h : fitP R f a) : Up (rmP R (walkP R f a d)) rk := by
  have hmem : ∀ m, m ∈ rmP R (walkP R f a d) → ∃ i, ∃ hi : i < R.length, goneB (walkP R f a d) i = false ∧ m = R[i] := fun m hm => by
    obtain ⟨i, hi, _, h2, h3⟩ := (rmTo_get (Nat.le_refl _)).1 hm
    exact ⟨i, hi, h2, h3⟩
  refine ⟨fun m hm => ?_, fun m hm hp => ?_⟩
  · obtain ⟨i, hi, hg, rfl⟩ := hmem m hm
    by_cases hp : R[i].par = 0
    · exact .inl hp
    · obtain ⟨n, hn, e⟩ := (hU.par _ (List.getElem_mem hi)).resolve_left hp
      obtain ⟨j, hj, rfl⟩ := List.getElem_of_mem hn
      refine .inr ⟨R[j], (rmTo_get (Nat.le_refl _)).2 ⟨j, hj, hj, ?_, rfl⟩, e⟩
      cases hgj : goneB (walkP R f a d) j with
      | false => rfl
      | true =>
        obtain ⟨d', hd'⟩ := goneB_iff.1 hgj
        have hik : i ∈ kidsP R (idAt R j) := by
          unfold kidsP
          rw [idAt_lt hj, e, if_neg hp]
          exact kidsTo_mem.2 ⟨hi, parAt_lt hi⟩
        have := goneB_iff.2 (walk_closed f a d h (j, d') hd' i hik)
        rw [hg] at this
        cases this
  · obtain ⟨i, hi, _, rfl⟩ := hmem m hm
    exact hU.rank _ (List.getElem_mem hi) hp
theorem set_ids {R : List RN} {k : Nat} {n : RN} (hI : Ids R) (hk : k < R.length) (hn : n.id = R[k].id) : Ids (R.set k n) := by
  refine Ids.of_nodup (fun m hm => ?_) ?_
  · rcases List.mem_or_eq_of_mem_set hm with h | rfl
    · exact hI.pos m h
    · rw [hn]; exact hI.pos _ (List.getElem_mem hk)
  · have e : (R.set k n).map (·.id) = R.map (·.id) := by
      rw [List.map_set]
      apply List.ext_getElem?
      intro j
      by_cases hjk : k = j
      · subst hjk
        rw [List.getElem?_set_self (by simpa using hk), List.getElem?_map, List.getElem?_eq_getElem hk, hn]
        rfl
      · rw [List.getElem?_set_ne hjk]
    rw [e]
    exact hI.nodup
theorem set_up {R : List RN} {rk : Int → Nat} {k : Nat} {n : RN} (hU : Up R rk) (hk : k < R.length) (hn : n.id = R[k].id) (hp : n.par = R[k].par) : Up (R.set k n) rk := by
  have hin : ∀ x, (∃ m, m ∈ R ∧ m.id = x) → ∃ m, m ∈ R.set k n ∧ m.id = x := by
    rintro x ⟨m, hm, rfl⟩
    obtain ⟨i, hi, rfl⟩ := List.getElem_of_mem hm
    by_cases hik : k = i
    · subst hik; exact ⟨n, List.mem_set hk n, hn⟩
    · refine ⟨R[i], ?_, rfl⟩
      have : (R.set k n)[i]'(by simpa using hi) = R[i] := List.getElem_set_ne hik _
      rw [← this]
      exact List.getElem_mem _
  refine ⟨fun m hm => ?_, fun m hm h0 => ?_⟩
  · rcases List.mem_or_eq_of_mem_set hm with h | rfl
    · exact (hU.par m h).imp id (hin _)
    · rw [hp]; exact (hU.par _ (List.getElem_mem hk)).imp id (hin _)
  · rcases List.mem_or_eq_of_mem_set hm with h | rfl
    · exact hU.rank m h h0
    · rw [hp] at h0 ⊢; rw [hn]; exact hU.rank _ (List.getElem_mem hk) h0
theorem more_ids {R : List RN} {n : RN} (hI : Ids R) (h0 : 0 < n.id) (hn : ∀ m, m ∈ R → m.id < n.id) : Ids (R ++ [n]) := by
  refine Ids.of_nodup (fun m hm => ?_) ?_
  · rcases List.mem_append.1 hm with h | h
    · exact hI.pos m h
    · rw [List.mem_singleton.1 h]; exact h0
  · rw [List.map_append, List.nodup_append]
    refine ⟨hI.nodup, by simp, fun x hx y hy e => ?_⟩
    obtain ⟨m, hm, rfl⟩ := List.mem_map.1 hx
    simp at hy
    have := hn m hm
    omega
theorem more_up {R : List RN} {rk : Int → Nat} {n : RN} (hU : Up R rk) (hn : n.par = 0) : Up (R ++ [n]) rk := by
  refine ⟨fun m hm => ?_, fun m hm h0 => ?_⟩
  · rcases List.mem_append.1 hm with h | h
    · exact (hU.par m h).imp id (fun ⟨x, hx, e⟩ => ⟨x, List.mem_append.2 (.inl hx), e⟩)
    · rw [List.mem_singleton.1 h]; exact .inl hn
  · rcases List.mem_append.1 hm with h | h
    · exact hU.rank m h h0
    · rw [List.mem_singleton.1 h] at h0; exact absurd hn h0
end Go.Proofs.Ytobgcaemnpkbmaa
namespace Go.Proofs.Ytobgcaemnpkbmaa
open Go.RowKit
theorem setTo_mem (l : List (ByteArray × ByteArray)) (nm vl : ByteArray) : ∀ k, k ≤ l.length → ∀ x, x ∈ (setTo l nm vl k).1 → x ∈ l ∨ x = (nm, vl) := by
  intro k
  induction k with
  | zero => intro _ x h; simp [setTo] at h
  | succ k ih =>
    intro hk x h
    have hk' : k < l.length := by omega
    have ih := ih (by omega) x
    have ha : attAt l k = l[k] := by simp [attAt, hk']
    rw [setTo] at h
    simp only [ha] at h
    have hm : l[k] ∈ l := List.getElem_mem hk'
    have ho : ∀ y, y ∈ (if (setTo l nm vl k).2 = false ∧ Op.bytesLess l[k].1.toList nm.toList = false then (setTo l nm vl k).1 ++ [(nm, vl)] else (setTo l nm vl k).1) → y ∈ (setTo l nm vl k).1 ∨ y = (nm, vl) := by
      intro y hy
      split at hy
      · rcases List.mem_append.1 hy with h | h
        · exact .inl h
        · exact .inr (List.mem_singleton.1 h)
      · exact .inl hy
    split at h
    · rcases ho x h with h | h
      · exact ih h
      · exact .inr h
    · rcases List.mem_append.1 h with h | h
      · rcases ho x h with h | h
        · exact ih h
        · exact .inr h
      · exact .inl (by rw [List.mem_singleton.1 h]; exact hm)
theorem setP_mem {l : List (ByteArray × ByteArray)} {nm vl : ByteArray} {x : ByteArray × ByteArray} (h : x ∈ setP l nm vl) : x ∈ l ∨ x = (nm, vl) := by
  unfold setP at h
  split at h
  · exact setTo_mem l nm vl _ (Nat.le_refl _) x h
  · rcases List.mem_append.1 h with h | h
    · exact setTo_mem l nm vl _ (Nat.le_refl _) x h
    · exact .inr (List.mem_singleton.1 h)
theorem unsetP_mem {l : List (ByteArray × ByteArray)} {nm : ByteArray} {x : ByteArray × ByteArray} (h : x ∈ unsetP l nm) : x ∈ l := (List.mem_filter.1 h).1
end Go.Proofs.Ytobgcaemnpkbmaa
namespace Go.Proofs.Ytobgcaemnpkbmaa
open Go.RowKit
structure DocOk (R : List RN) (last : Int) : Prop where
  ids : Ids R
  up : ∃ rk, Up R rk
  top : ∀ n, n ∈ R → n.id ≤ last
  root : ∃ n, n ∈ R ∧ n.id = 1 ∧ n.par = 0
theorem DocOk.last_pos {R : List RN} {last : Int} (h : DocOk R last) : 1 ≤ last := by
  obtain ⟨n, hn, e, _⟩ := h.root
  have := h.top n hn
  omega
theorem DocOk.ins {R : List RN} {last : Int} (h : DocOk R last) {rk : Int → Nat} (hU : Up R rk) {k : Nat} {bf pa : Int} (hk : k < R.length) (h1 : R[k].id ≠ 1) (hb : bf = 0 ∨ ∃ i, i < R.length ∧ idAt R i = bf) (hpa : ∃ n, n ∈ R ∧ n.id = pa) (hin : inP R (rk pa + 1) pa R[k].id = false) :
    DocOk (insP R { R[k] with par := pa } k bf) last := by
  have h0 := h.ids.pos _ (List.getElem_mem hk)
  have hno := inP_no hU h.ids (other := R[k].id) (by omega) (rk pa + 1) pa (.inr hpa) (.inr (by omega)) hin
  have hmem := insP_mem (n := { R[k] with par := pa }) h.ids hk hb
  have hperm := insP_perm (n := { R[k] with par := pa }) h.ids hk hb
  refine ⟨insP_ids h.ids hk hb rfl, insP_up hU h.ids hk hb hpa hno, fun n hn => ?_, ?_⟩
  · rcases hmem n hn with hn | rfl
    · exact h.top n hn
    · exact h.top R[k] (List.getElem_mem hk)
  · obtain ⟨n, hn, e⟩ := h.root
    rcases List.mem_append.1 (hperm.2.mem_iff.1 hn) with hm | hm
    · exact ⟨n, hperm.1.mem_iff.2 (List.mem_append.2 (.inl hm)), e⟩
    · have := List.mem_singleton.1 hm
      subst this
      exact absurd e.1 h1
theorem DocOk.put {R : List RN} {last : Int} (h : DocOk R last) {k : Nat} {n : RN} (hk : k < R.length) (hn : n.id = R[k].id) (hp : n.par = R[k].par) : DocOk (R.set k n) last := by
  obtain ⟨rk, hU⟩ := h.up
  refine ⟨set_ids h.ids hk hn, ⟨rk, set_up hU hk hn hp⟩, fun m hm => ?_, ?_⟩
  · rcases List.mem_or_eq_of_mem_set hm with hm | rfl
    · exact h.top m hm
    · rw [hn]; exact h.top _ (List.getElem_mem hk)
  · obtain ⟨m, hm, e⟩ := h.root
    obtain ⟨i, hi, rfl⟩ := List.getElem_of_mem hm
    by_cases hik : i = k
    · subst hik
      exact ⟨n, List.mem_set (by simpa using hi) n, by rw [hn]; exact e.1, by rw [hp]; exact e.2⟩
    · refine ⟨R[i], List.mem_iff_getElem.2 ⟨i, by simpa using hi, ?_⟩, e⟩
      rw [List.getElem_set_ne (fun x => hik x.symm)]
theorem DocOk.more {R : List RN} {last : Int} (h : DocOk R last) {n : RN} (hn : last < n.id) (hp : n.par = 0) : DocOk (R ++ [n]) n.id := by
  obtain ⟨rk, hU⟩ := h.up
  have := h.last_pos
  refine ⟨more_ids h.ids (by omega) (fun m hm => by have := h.top m hm; omega), ⟨rk, more_up hU hp⟩, fun m hm => ?_, ?_⟩
  · rcases List.mem_append.1 hm with hm | hm
    · have := h.top m hm; omega
    · rw [List.mem_singleton.1 hm]; omega
  · obtain ⟨m, hm, e⟩ := h.root
    exact ⟨m, List.mem_append.2 (.inl hm), e⟩
theorem root_stays {R : List RN} {last : Int} (h : DocOk R last) {f k : Nat} {d : Int} (hf : fitP R f k) (hk : k < R.length) (hne : R[k].id ≠ 1) : ∀ i, (hi : i < R.length) → R[i].id = 1 → goneB (walkP R f k d) i = false := by
  intro i hi e
  have hp : R[i].par = 0 := by
    obtain ⟨m, hm, e1, e2⟩ := h.root
    obtain ⟨j, hj, rfl⟩ := List.getElem_of_mem hm
    have := h.ids.inj i j hi hj (e.trans e1.symm)
    subst this
    exact e2
  cases hg : goneB (walkP R f k d) i with
  | false => rfl
  | true =>
    obtain ⟨d', hd⟩ := goneB_iff.1 hg
    obtain ⟨_, m, hm⟩ := walk_up h.ids f k d hf _ hd
    have e1 : idAt R i = R[i].id := by simp [idAt, hi]
    have e2 : idAt R k = R[k].id := by simp [idAt, hk]
    rw [e1, e2] at hm
    have h0 := h.ids.pos _ (List.getElem_mem hk)
    cases m with
    | zero =>
      have hm : R[i].id = R[k].id := hm
      exact absurd (hm.symm.trans e) hne
    | succ m =>
      rw [upN, upP_id h.ids hi, hp, upN_zero] at hm
      omega
theorem DocOk.rem {R : List RN} {last : Int} (h : DocOk R last) {f k : Nat} {d : Int} (hf : fitP R f k) (hk : k < R.length) (hne : R[k].id ≠ 1) : DocOk (rmP R (walkP R f k d)) last := by
  obtain ⟨rk, hU⟩ := h.up
  have hr := root_stays h (d := d) hf hk hne
  refine ⟨rmP_ids h.ids, ⟨rk, rmP_up hU h.ids hf⟩, fun m hm => ?_, ?_⟩
  · obtain ⟨i, hi, _, _, rfl⟩ := (rmTo_get (Nat.le_refl _)).1 hm
    exact h.top _ (List.getElem_mem hi)
  · obtain ⟨m, hm, e⟩ := h.root
    obtain ⟨i, hi, rfl⟩ := List.getElem_of_mem hm
    exact ⟨R[i], (rmTo_get (Nat.le_refl _)).2 ⟨i, hi, hi, hr i hi e.1, rfl⟩, e⟩
end Go.Proofs.Ytobgcaemnpkbmaa
namespace Go.Proofs.Ytobgcaemnpkbmaa
open Go.RowKit
def PN.bare (n : PN) : RN := { toPN := n, ao := none, an := 0, ac := 0 }
def RN.bare (n : RN) : RN := n.toPN.bare
def bareL (R : List RN) : List RN := R.map RN.bare
theorem bareL_length (R : List RN) : (bareL R).length = R.length := by unfold bareL; simp
theorem bare_mem {R : List RN} {m : RN} : m ∈ bareL R ↔ ∃ n, n ∈ R ∧ n.bare = m := by unfold bareL; exact List.mem_map
theorem bare_up {R : List RN} {rk : Int → Nat} : Up (bareL R) rk ↔ Up R rk := by
  constructor
  · intro h
    refine ⟨fun n hn => ?_, fun n hn hp => h.rank n.bare (bare_mem.2 ⟨n, hn, rfl⟩) hp⟩
    rcases h.par n.bare (bare_mem.2 ⟨n, hn, rfl⟩) with e | ⟨m, hm, e⟩
    · exact .inl e
    · obtain ⟨k, hk, rfl⟩ := bare_mem.1 hm
      exact .inr ⟨k, hk, e⟩
  · intro h
    refine ⟨fun m hm => ?_, fun m hm hp => ?_⟩
    · obtain ⟨n, hn, rfl⟩ := bare_mem.1 hm
      rcases h.par n hn with e | ⟨k, hk, e⟩
      · exact .inl e
      · exact .inr ⟨k.bare, bare_mem.2 ⟨k, hk, rfl⟩, e⟩
    · obtain ⟨n, hn, rfl⟩ := bare_mem.1 hm
      exact h.rank n hn hp
end Go.Proofs.Ytobgcaemnpkbmaa
namespace Go.Proofs.Ytobgcaemnpkbmaa
open Go.RowKit
theorem inP_yes {R : List RN} {o : Int} : ∀ (f : Nat) (x : Int), inP R f x o = true → ∃ m, upN R m x = o := by
  intro f
  induction f with
  | zero => intro x h; simp [inP] at h
  | succ f ih =>
    intro x h
    rw [inP] at h
    by_cases hz : x = 0
    · rw [if_pos hz] at h; cases h
    · rw [if_neg hz] at h
      by_cases ho : x = o
      · exact ⟨0, ho⟩
      · rw [if_neg ho] at h
        obtain ⟨m, e⟩ := ih _ h
        exact ⟨m + 1, by rw [upN]; unfold upP; rw [if_neg hz]; exact e⟩
def WithinP (R : List RN) (x o : Int) : Prop := ∃ m, upN R m x = o
theorem inP_iff {R : List RN} {rk : Int → Nat} (hU : Up R rk) (hI : Ids R) {x o : Int} (h0 : o ≠ 0) (hx : ∃ n, n ∈ R ∧ n.id = x) : inP R (rk x + 1) x o = true ↔ WithinP R x o := by
  constructor
  · exact inP_yes _ _
  · rintro ⟨m, e⟩
    cases hi : inP R (rk x + 1) x o with
    | true => rfl
    | false => exact absurd e (inP_no hU hI h0 _ x (.inr hx) (.inr (by omega)) hi m)
theorem inP_not {R : List RN} {rk : Int → Nat} (hU : Up R rk) (hI : Ids R) {x o : Int} (h0 : o ≠ 0) (hx : ∃ n, n ∈ R ∧ n.id = x) : inP R (rk x + 1) x o = false ↔ ¬ WithinP R x o := by
  rw [← inP_iff hU hI h0 hx]; simp
theorem bare_get {R : List RN} {i : Nat} (h : i < (bareL R).length) : (bareL R)[i] = (R[i]'(by rw [bareL_length] at h; exact h)).bare := List.getElem_map (l := R) RN.bare
theorem bare_ids {R : List RN} : Ids (bareL R) ↔ Ids R := by
  constructor
  · intro h
    refine ⟨fun n hn => h.pos n.bare (bare_mem.2 ⟨n, hn, rfl⟩), fun i j hi hj e => h.inj i j (by rw [bareL_length]; exact hi) (by rw [bareL_length]; exact hj) ?_⟩
    rw [bare_get, bare_get]
    exact e
  · intro h
    refine ⟨fun m hm => ?_, fun i j hi hj e => h.inj i j (by rw [bareL_length] at hi; exact hi) (by rw [bareL_length] at hj; exact hj) ?_⟩
    · obtain ⟨n, hn, rfl⟩ := bare_mem.1 hm
      exact h.pos n hn
    · rw [bare_get, bare_get] at e
      exact e
end Go.Proofs.Ytobgcaemnpkbmaa
