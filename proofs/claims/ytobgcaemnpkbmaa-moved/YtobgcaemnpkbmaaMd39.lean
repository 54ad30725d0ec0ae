/- Ka Ih Ii -/
import Derived.Test.YtobgcaemnpkbmaaMd38
namespace Go.Proofs.Ytobgcaemnpkbmaa
open Go.RowKit
structure RowsIn (v : Nat → Int) (C : List (List Nat)) : Prop where
  len : ∀ j, j < C.length → (C.getD j []).length = j + 1
  rise : ∀ p q, p < q → q < C.length → v (headN (C.getD p [])) < v (headN (C.getD q []))
theorem end_low {v : Nat → Int} {C : List (List Nat)} {i j : Nat} (h : j < endAt v C i) : v (headN (C.getD j [])) < v i := by
  have hle := endAt_le v C i
  have h1 : ∀ c, c ∈ C.takeWhile (fun c => decide (v (headN c) < v i)) → v (headN c) < v i := fun c hc => by
    have := List.all_eq_true.1 (List.all_takeWhile (l := C) (p := fun c => decide (v (headN c) < v i))) c hc
    simpa using this
  refine h1 _ ?_
  rw [List.getD_eq_getElem?_getD, List.getElem?_eq_getElem (by omega)]
  have h2 : j < (C.takeWhile (fun c => decide (v (headN c) < v i))).length := h
  have h3 : (C.takeWhile (fun c => decide (v (headN c) < v i)))[j] = C[j] := (List.takeWhile_prefix _).getElem h2
  show C[j] ∈ _
  rw [← h3]
  exact List.getElem_mem _
theorem end_high {v : Nat → Int} : ∀ {C : List (List Nat)} {i : Nat}, endAt v C i < C.length → v i ≤ v (headN (C.getD (endAt v C i) []))
  | [], i, h => by simp at h
  | c :: C, i, h => by
    unfold endAt at h ⊢
    by_cases hc : v (headN c) < v i
    · rw [List.takeWhile_cons_of_pos (by simpa using hc)] at h ⊢
      have := end_high (v := v) (C := C) (i := i) (by simpa [endAt] using h)
      simpa [endAt] using this
    · rw [List.takeWhile_cons_of_neg (by simpa using hc)]
      simp only [List.length_nil, List.getD_cons_zero]
      omega
theorem step_get {v : Nat → Int} {C : List (List Nat)} {i : Nat} (j : Nat) : (rowStep v C i).getD j [] = if j = endAt v C i then newC C (endAt v C i) i else C.getD j [] := by
  have hle := endAt_le v C i
  unfold rowStep
  by_cases h : endAt v C i < C.length
  · rw [if_pos h, List.getD_eq_getElem?_getD, List.getElem?_set]
    by_cases e : endAt v C i = j
    · rw [if_pos e, if_pos (by omega), if_pos e.symm]; rfl
    · rw [if_neg e, if_neg (fun e2 => e e2.symm), ← List.getD_eq_getElem?_getD]
  · rw [if_neg h, List.getD_eq_getElem?_getD]
    have he : endAt v C i = C.length := by omega
    by_cases e : j = endAt v C i
    · rw [if_pos e, e, he, List.getElem?_append_right (Nat.le_refl _)]; simp
    · rw [if_neg e]
      by_cases hj : j < C.length
      · rw [List.getElem?_append_left hj, ← List.getD_eq_getElem?_getD]
      · rw [List.getElem?_eq_none (by rw [List.length_append]; show C.length + 1 ≤ j; omega), List.getD_eq_getElem?_getD, List.getElem?_eq_none (by omega)]
theorem step_len {v : Nat → Int} {C : List (List Nat)} {i : Nat} : (rowStep v C i).length = if endAt v C i < C.length then C.length else C.length + 1 := by
  unfold rowStep
  split
  · rw [List.length_set]
  · rw [List.length_append]; rfl
theorem new_len {v : Nat → Int} {C : List (List Nat)} {i : Nat} (h : RowsIn v C) : (newC C (endAt v C i) i).length = endAt v C i + 1 := by
  have hle := endAt_le v C i
  unfold newC
  rw [List.length_cons]
  split
  · next e => rw [e]; rfl
  · next e => rw [h.len _ (by omega)]; omega
theorem rows_in (v : Nat → Int) : ∀ n, RowsIn v (rowsTo v n)
  | 0 => ⟨fun j hj => by simp [rowsTo] at hj, fun p q _ hq => by simp [rowsTo] at hq⟩
  | i + 1 => by
    have ih := rows_in v i
    have hle := endAt_le v (rowsTo v i) i
    have hlen := step_len (v := v) (C := rowsTo v i) (i := i)
    have hh : headN (newC (rowsTo v i) (endAt v (rowsTo v i) i) i) = i := rfl
    rw [rowsTo]
    generalize rowsTo v i = C at *
    refine ⟨fun j hj => ?_, fun p q hpq hq => ?_⟩
    · rw [step_get]
      split
      · next e => rw [new_len ih, e]
      · next e =>
        refine ih.len j ?_
        rw [hlen] at hj
        split at hj <;> omega
    · rw [step_get, step_get]
      have hqC : q ≠ endAt v C i → q < C.length := fun e => by rw [hlen] at hq; split at hq <;> omega
      by_cases e1 : p = endAt v C i
      · rw [if_pos e1, hh, if_neg (by omega)]
        have hqC := hqC (by omega)
        have h1 := end_high (v := v) (C := C) (i := i) (by omega)
        have h2 := ih.rise (endAt v C i) q (by omega) hqC
        omega
      · rw [if_neg e1]
        by_cases e2 : q = endAt v C i
        · rw [if_pos e2, hh]; exact end_low (by omega)
        · rw [if_neg e2]; exact ih.rise p q hpq (hqC e2)
theorem rows_most (v : Nat → Int) : ∀ n (c : List Nat), c ≠ [] → c.Pairwise (fun x y => x < y ∧ v x < v y) → (∀ x, x ∈ c → x < n) → c.length ≤ (rowsTo v n).length ∧ v (headN ((rowsTo v n).getD (c.length - 1) [])) ≤ v (c.getLastD 0)
  | 0, c, hne, _, hlt => by
    cases c with
    | nil => exact absurd rfl hne
    | cons a c => exact absurd (hlt a (by simp)) (Nat.not_lt_zero _)
  | i + 1, c, hne, hp, hlt => by
    have hin := rows_in v i
    have ih := rows_most v i
    have hle := endAt_le v (rowsTo v i) i
    have hlen := step_len (v := v) (C := rowsTo v i) (i := i)
    have hh : headN (newC (rowsTo v i) (endAt v (rowsTo v i) i) i) = i := rfl
    have hge : (rowsTo v i).length ≤ (rowStep v (rowsTo v i) i).length := by rw [hlen]; split <;> omega
    have hge2 : endAt v (rowsTo v i) i + 1 ≤ (rowStep v (rowsTo v i) i).length := by rw [hlen]; split <;> omega
    rw [rowsTo]
    by_cases hi : i ∈ c
    · -- it ends with i
      obtain ⟨d, rfl⟩ : ∃ d, c = d ++ [i] := by
        obtain ⟨d, a, e⟩ : ∃ d a, c = d ++ [a] := ⟨c.dropLast, c.getLast hne, (List.dropLast_concat_getLast hne).symm⟩
        subst e
        have ha := hlt a (by simp)
        rcases List.mem_append.1 hi with h | h
        · have := ((List.pairwise_append.1 hp).2.2 i h a (by simp)).1
          omega
        · rw [List.mem_singleton.1 h]; exact ⟨d, rfl⟩
      have hlast : (d ++ [i]).getLastD 0 = i := by simp
      rw [hlast]
      obtain ⟨p1, _, p3⟩ := List.pairwise_append.1 hp
      have hd : d.length ≤ endAt v (rowsTo v i) i := by
        by_cases hdn : d = []
        · rw [hdn]; exact Nat.zero_le _
        · obtain ⟨g1, g2⟩ := ih d hdn p1 fun x hx => (p3 x hx i (by simp)).1
          have hdl : d.getLastD 0 ∈ d := getLastD_mem' _ _ hdn
          have hdp : 0 < d.length := List.length_pos_iff.2 hdn
          have g3 := (p3 _ hdl i (by simp)).2
          rcases Nat.lt_or_ge (d.length - 1) (endAt v (rowsTo v i) i) with h | h
          · omega
          · exfalso
            have h1 := end_high (v := v) (C := rowsTo v i) (i := i) (by omega)
            rcases Nat.lt_or_ge (endAt v (rowsTo v i) i) (d.length - 1) with h2 | h2
            · have := hin.rise _ _ h2 (by omega)
              omega
            · have e : endAt v (rowsTo v i) i = d.length - 1 := by omega
              rw [e] at h1
              omega
      have e : (d ++ [i]).length - 1 = d.length := by simp
      refine ⟨by simp; omega, ?_⟩
      rw [e, step_get]
      split
      · rw [hh]; exact Int.le_refl _
      · next e2 => exact Int.le_of_lt (end_low (by omega))
    · obtain ⟨g1, g2⟩ := ih c hne hp fun x hx => by
        have := hlt x hx
        have : x ≠ i := fun e => by rw [e] at hx; exact hi hx
        omega
      refine ⟨Nat.le_trans g1 hge, ?_⟩
      rw [step_get]
      split
      · next e =>
        rw [hh]
        have hcp : 0 < c.length := List.length_pos_iff.2 hne
        have h1 := end_high (v := v) (C := rowsTo v i) (i := i) (by omega)
        rw [← e] at h1
        omega
      · exact g2
theorem row_length (v : Nat → Int) (n : Nat) : (rowP v n).length = (rowsTo v n).length := by
  unfold rowP
  rw [List.length_reverse, List.length_map]
  have h := rows_in v n
  cases e : rowsTo v n with
  | nil => rfl
  | cons a l =>
    have h1 := h.len ((rowsTo v n).length - 1) (by rw [e]; simp)
    rw [e] at h1
    have h2 : (a :: l).getLastD [] = (a :: l).getD ((a :: l).length - 1) [] := by
      rw [List.getLastD_eq_getLast?, List.getLast?_eq_getElem?, List.getD_eq_getElem?_getD]
    rw [h2, h1]
    simp
theorem row_most (v : Nat → Int) (n : Nat) (c : List Nat) (hp : c.Pairwise (fun x y => x < y ∧ v x < v y)) (hlt : ∀ x, x ∈ c → x < n) : c.length ≤ (rowP v n).length := by
  rw [row_length]
  cases c with
  | nil => exact Nat.zero_le _
  | cons a c => exact (rows_most v n (a :: c) (by simp) hp hlt).1
end Go.Proofs.Ytobgcaemnpkbmaa
namespace Go.Proofs.Ytobgcaemnpkbmaa
open Go.RowKit
def outB (ks pr : List Int) (k : Nat) (c : Int) : Bool := (List.range k).any fun j => (ks.getD j 0 == c) && !(pr.contains (j : Int))
theorem outB_succ (ks pr : List Int) (k : Nat) (c : Int) : outB ks pr (k + 1) c = (outB ks pr k c || ((ks.getD k 0 == c) && !(pr.contains (k : Int)))) := by
  unfold outB
  rw [List.range_succ, List.any_append]
  simp
theorem outB_iff {ks pr : List Int} {k : Nat} {c : Int} : outB ks pr k c = true ↔ ∃ j, j < k ∧ ks.getD j 0 = c ∧ pr.contains (j : Int) = false := by
  unfold outB
  rw [List.any_eq_true]
  constructor
  · rintro ⟨j, hj, e⟩
    simp only [Bool.and_eq_true, beq_iff_eq, Bool.not_eq_true'] at e
    exact ⟨j, List.mem_range.1 hj, e.1, e.2⟩
  · rintro ⟨j, hj, e1, e2⟩
    refine ⟨j, List.mem_range.2 hj, ?_⟩
    rw [e1, e2]
    simp
theorem getD_mem {l : List Int} {j : Nat} (h : j < l.length) : l.getD j 0 ∈ l := by
  rw [List.getD_eq_getElem?_getD, List.getElem?_eq_getElem h]
  exact List.getElem_mem _
theorem nodup_inj {l : List Int} (h : l.Nodup) {i j : Nat} (hi : i < l.length) (hj : j < l.length) (e : l.getD i 0 = l.getD j 0) : i = j := by
  rw [List.getD_eq_getElem?_getD, List.getElem?_eq_getElem hi, List.getD_eq_getElem?_getD, List.getElem?_eq_getElem hj] at e
  have e : l[i] = l[j] := e
  rcases Nat.lt_trichotomy i j with h1 | h1 | h1
  · exact absurd e (List.pairwise_iff_getElem.1 h i j hi hj h1)
  · exact h1
  · exact absurd e.symm (List.pairwise_iff_getElem.1 h j i hj hi h1)
theorem kin_nodup {R : List RN} (hI : Ids R) {i : Int} (hi : Has R i) : (niOf R i).kids.Nodup := by rw [ni_kids hI hi]; exact kidIds_nodup hI i
theorem kid_root {R : List RN} {last : Int} (h : DocOk R last) {i c : Int} (hi : Has R i) (hc : c ∈ (niOf R i).kids) : c ≠ 1 := fun e => by
  obtain ⟨n, hn, e1, e2⟩ := kid_node h.ids hi hc
  obtain ⟨m, hm, e3, e4⟩ := h.root
  have := ids_eq h.ids hn hm (by rw [e2, e3, e])
  have hp := has_pos h.ids hi
  rw [this] at e1
  omega
theorem run_rems {R : List RN} {last : Int} (h : DocOk R last) {id : Int} (hid : Has R id) {ks : List Int} (hks : (niOf R id).kids = ks) (pr : List Int) :
    ∀ k, k ≤ ks.length → ∃ R', RunL R last (remsP (fun j => ks.getD j 0) pr k) R' last ∧ DocOk R' last ∧ (∀ i, Has R' i ↔ Has R i ∧ ∀ c, outB ks pr k c = true → ¬ Dsc (niOf R) c i) ∧ (∀ i, Has R' i → i ≠ id → niOf R' i = niOf R i) ∧ Has R' id ∧ niOf R' id = { niOf R id with kids := ks.filter (fun c => !outB ks pr k c) } ∧ R'.length ≤ R.length
  | 0, _ => by
    have e : ks.filter (fun c => !outB ks pr 0 c) = ks := by rw [List.filter_eq_self]; intro c _; rfl
    refine ⟨R, .nil .., h, fun i => ⟨fun hi => ⟨hi, fun c hc => by cases hc⟩, fun hi => hi.1⟩, fun _ _ _ => rfl, hid, ?_, Nat.le_refl _⟩
    rw [e, ← hks]
  | k + 1, hk => by
    obtain ⟨R', h1, hd, h2, h3, h4, h5, h6⟩ := run_rems h hid hks pr k (by omega)
    have hI := h.ids
    have hnd : ks.Nodup := by rw [← hks]; exact kin_nodup hI hid
    cases hq : pr.contains (k : Int) with
    | true =>
      have e : ∀ c, outB ks pr (k + 1) c = outB ks pr k c := fun c => by rw [outB_succ, hq]; simp
      refine ⟨R', by rw [remsP_yes hq]; exact h1, hd, fun i => ?_, h3, h4, ?_, h6⟩
      · rw [h2]
        simp only [e]
      · rw [h5]
        simp only [e]
    | false =>
      have hkl : k < ks.length := by omega
      generalize hc0 : ks.getD k 0 = c0
      have hmem : c0 ∈ ks := by rw [← hc0]; exact getD_mem hkl
      have hkid : c0 ∈ (niOf R id).kids := by rw [hks]; exact hmem
      have hout : ∀ c, outB ks pr k c = true → c ∈ (niOf R id).kids ∧ c ≠ c0 := fun c hc => by
        obtain ⟨j, hj, e1, _⟩ := outB_iff.1 hc
        refine ⟨by rw [hks, ← e1]; exact getD_mem (by omega), fun e2 => ?_⟩
        have := nodup_inj hnd (show j < ks.length by omega) hkl (by rw [e1, hc0, e2])
        omega
      have hsub : ∀ p, Dsc (niOf R) c0 p → Has R' p ∧ niOf R' p = niOf R p := fun p hp => by
        have hP : Has R' p := (h2 p).2 ⟨dsc_has hI (kid_has hI hid hkid) hp, fun c hc hd2 => by
          obtain ⟨g1, g2⟩ := hout c hc
          exact dsc_apart h hid g1 hkid g2 hd2 hp⟩
        exact ⟨hP, h3 p hP fun e => by subst e; exact dsc_not h hid hkid hp⟩
      have hiff : ∀ i, Dsc (niOf R') c0 i ↔ Dsc (niOf R) c0 i := fun i => ⟨fun hd2 => hd2.back fun p hp => (hsub p hp).2, fun hd2 => hd2.keep fun p hp => (hsub p hp).2⟩
      obtain ⟨f1, f2, f3, f4, f5⟩ := eff_remove hd (hsub c0 (.self _)).1 (kid_root h hid hkid)
      have hd2 := hd.did f1
      rw [f4] at hd2
      have hno : ¬ Dsc (niOf R') c0 id := fun e => dsc_not h hid hkid ((hiff id).1 e)
      have e1 : ∀ c, outB ks pr (k + 1) c = true ↔ outB ks pr k c = true ∨ c = c0 := fun c => by
        rw [outB_succ, hq, hc0]
        simp only [Bool.or_eq_true, Bool.and_eq_true, beq_iff_eq, Bool.not_false, and_true]
        exact or_congr Iff.rfl eq_comm
      refine ⟨_, by rw [remsP_no hq]; exact h1.app (by have h7 := RunL.one f1; rw [f4] at h7; simp only [hc0]; exact h7), hd2, fun i => ?_, fun i hi hne => ?_, ?_, ?_, Nat.le_trans f5 h6⟩
      · rw [f2, h2, hiff]
        constructor
        · rintro ⟨⟨g1, g2⟩, g3⟩
          refine ⟨g1, fun c hc => ?_⟩
          rcases (e1 c).1 hc with e | e
          · exact g2 c e
          · rw [e]; exact g3
        · rintro ⟨g1, g2⟩
          exact ⟨⟨g1, fun c hc => g2 c ((e1 c).2 (.inl hc))⟩, g2 c0 ((e1 c0).2 (.inr rfl))⟩
      · obtain ⟨g1, g2⟩ := (f2 i).1 hi
        rw [f3 i g1 g2, h3 i g1 hne]
        have : (niOf R i).kids.filter (fun j => j != c0) = (niOf R i).kids := by
          rw [List.filter_eq_self]
          intro c hc
          have : c ≠ c0 := fun e => by
            subst e
            exact hne (kid_one hI ((h2 i).1 g1).1 hid hc hkid)
          simpa using this
        rw [this]
      · exact (f2 id).2 ⟨h4, hno⟩
      · rw [f3 id h4 hno, h5]
        have : (ks.filter (fun c => !outB ks pr k c)).filter (fun j => j != c0) = ks.filter (fun c => !outB ks pr (k + 1) c) := by
          rw [List.filter_filter]
          refine List.filter_congr fun c _ => ?_
          rw [outB_succ, hq, hc0]
          have e2 : (c0 == c) = (c == c0) := BEq.comm
          rw [e2]
          cases outB ks pr k c <;> simp [bne]
        simp only [this]
end Go.Proofs.Ytobgcaemnpkbmaa
namespace Go.Proofs.Ytobgcaemnpkbmaa
open Go.RowKit
def BringS (T : Int → NI) (L : Nat → Nod) (br : Br) (f : Nat) : Prop :=
  ∀ (R : List RN) (last id : Int) (x : NI) (s n : Nat), DocOk R last → Fine R → n ≤ f → PieceOk L s n → Has R id → niOf R id = x → NiFine x → x.tag = (L s).t → x.key = (L s).k → R.length + n ≤ 801 → (∀ j, Dsc (niOf R) id j → j ≠ id → niOf R j = T j) →
  ∃ R', RunL R last (br id x s n last).1 R' (br id x s n last).2 ∧ TreeAt R' L f id s n ∧ (∀ j, Has R j → ¬ Dsc (niOf R) id j → Has R' j ∧ niOf R' j = niOf R j ∧ ¬ Dsc (niOf R') id j) ∧ (∀ j, Has R' j → (Has R j ∧ ¬ Dsc (niOf R) id j) ∨ Dsc (niOf R') id j) ∧ R'.length + 1 ≤ R.length + n ∧ KeepAt R' T L f id x.kids s n
structure KInv (T : Int → NI) (L : Nat → Nod) (R : List RN) (id : Int) (y : NI) (ks pr : List Int) (s : Nat) (ps : List (Nat × Nat)) (f kt kp sz : Nat) (Rk : List RN) (kk proc sk : List Int) : Prop where
  hid : Has Rk id
  ni : niOf Rk id = { y with kids := kk }
  len : proc.length = kp
  filt : kk.filter (fun b => proc.contains b || sk.contains b) = proc ++ sk
  mem : ∀ b, b ∈ kk → b ∈ proc ∨ ∃ j, kp ≤ j ∧ j < ps.length ∧ pr.getD j 0 ≠ -1 ∧ b = ks.getD (pr.getD j 0).toNat 0
  pend : ∀ j, kp ≤ j → j < ps.length → pr.getD j 0 ≠ -1 → ks.getD (pr.getD j 0).toNat 0 ∈ kk ∧ ks.getD (pr.getD j 0).toNat 0 ∉ proc ∧ ∀ i, Dsc (niOf Rk) (ks.getD (pr.getD j 0).toNat 0) i → niOf Rk i = T i
  tree : ∀ j, j < kt → TreeAt Rk L f (proc.getD j 0) (s + (ps.getD j (0, 0)).1) ((ps.getD j (0, 0)).2 - (ps.getD j (0, 0)).1)
  pairs : ∀ j, j < kp → pr.getD j 0 ≠ -1 → proc.getD j 0 = ks.getD (pr.getD j 0).toNat 0
  keeps : ∀ j, j < kt → pr.getD j 0 ≠ -1 → KeepAt Rk T L f (proc.getD j 0) (T (proc.getD j 0)).kids (s + (ps.getD j (0, 0)).1) ((ps.getD j (0, 0)).2 - (ps.getD j (0, 0)).1)
  frame : ∀ j, Has R j → ¬ Dsc (niOf R) id j → Has Rk j ∧ niOf Rk j = niOf R j ∧ ¬ Dsc (niOf Rk) id j
  cover : ∀ j, Has Rk j → (Has R j ∧ ¬ Dsc (niOf R) id j) ∨ Dsc (niOf Rk) id j
  size : Rk.length ≤ R.length + sz
theorem KInv.kids {T : Int → NI} {L : Nat → Nod} {R : List RN} {id : Int} {y : NI} {ks pr : List Int} {s : Nat} {ps : List (Nat × Nat)} {f kt kp sz : Nat} {Rk : List RN} {kk proc sk : List Int} (h : KInv T L R id y ks pr s ps f kt kp sz Rk kk proc sk) : (niOf Rk id).kids = kk := by rw [h.ni]
theorem KInv.inn {T : Int → NI} {L : Nat → Nod} {R : List RN} {id : Int} {y : NI} {ks pr : List Int} {s : Nat} {ps : List (Nat × Nat)} {f kt kp sz : Nat} {Rk : List RN} {kk proc sk : List Int} (h : KInv T L R id y ks pr s ps f kt kp sz Rk kk proc sk) {b : Int} (hb : b ∈ proc ∨ b ∈ sk) : b ∈ kk := by
  have : b ∈ proc ++ sk := by rcases hb with e | e; exact List.mem_append_left _ e; exact List.mem_append_right _ e
  rw [← h.filt] at this
  exact (List.mem_filter.1 this).1
theorem dsc_kid {T : Int → NI} {i j : Int} : Dsc T i j ↔ j = i ∨ ∃ c, c ∈ (T i).kids ∧ Dsc T c j := by
  constructor
  · intro h
    cases h with
    | self => exact .inl rfl
    | step h1 h2 => exact .inr ⟨_, h1, h2⟩
  · rintro (e | ⟨c, h1, h2⟩)
    · subst e; exact .self _
    · exact .step h1 h2
theorem KInv.brought {T : Int → NI} {L : Nat → Nod} {R : List RN} {id : Int} {y : NI} {ks pr : List Int} {s : Nat} {ps : List (Nat × Nat)} {f k sz : Nat} {Rk R' : List RN} {l : Int} {kk proc sk : List Int} {c : Int} (h : KInv T L R id y ks pr s ps f k (k + 1) sz Rk kk (proc ++ [c]) sk) (hok : DocOk Rk l)
    (ht : TreeAt R' L f c (s + (ps.getD k (0, 0)).1) ((ps.getD k (0, 0)).2 - (ps.getD k (0, 0)).1)) (hf : ∀ j, Has Rk j → ¬ Dsc (niOf Rk) c j → Has R' j ∧ niOf R' j = niOf Rk j ∧ ¬ Dsc (niOf R') c j) (hc : ∀ j, Has R' j → (Has Rk j ∧ ¬ Dsc (niOf Rk) c j) ∨ Dsc (niOf R') c j) (hkp : pr.getD k 0 ≠ -1 → KeepAt R' T L f c (T c).kids (s + (ps.getD k (0, 0)).1) ((ps.getD k (0, 0)).2 - (ps.getD k (0, 0)).1)) {sz' : Nat} (hs : R'.length ≤ R.length + sz') :
    KInv T L R id y ks pr s ps f (k + 1) (k + 1) sz' R' kk (proc ++ [c]) sk := by
  have hI := hok.ids
  have hkids := h.kids
  have hck : c ∈ kk := h.inn (.inl (by simp))
  have hckid : c ∈ (niOf Rk id).kids := by rw [hkids]; exact hck
  have hplen : proc.length = k := by have := h.len; simp at this; exact this
  have hidn : ¬ Dsc (niOf Rk) c id := dsc_not hok h.hid hckid
  obtain ⟨i1, i2, i3⟩ := hf id h.hid hidn
  have hnd : kk.Nodup := by rw [← hkids]; exact kin_nodup hI h.hid
  have hndp : ((proc ++ [c]) ++ sk).Nodup := by rw [← h.filt]; exact hnd.filter _
  have hcp : c ∉ proc := fun e => by
    have := (List.nodup_append.1 (List.nodup_append.1 hndp).1).2.2 c e c (by simp)
    exact this rfl
  -- a child other than c
  have hoth : ∀ b, b ∈ kk → b ≠ c → ∀ j, Dsc (niOf Rk) b j → Has R' j ∧ niOf R' j = niOf Rk j ∧ ¬ Dsc (niOf R') c j := fun b hb hne j hj =>
    hf j (dsc_has hI (kid_has hI h.hid (by rw [hkids]; exact hb)) hj) fun e => dsc_apart hok h.hid (by rw [hkids]; exact hb) hckid hne hj e
  have hothi : ∀ b, b ∈ kk → b ≠ c → ∀ j, Dsc (niOf R') b j ↔ Dsc (niOf Rk) b j := fun b hb hne j => ⟨fun e => e.back fun p hp => (hoth b hb hne p hp).2.1, fun e => e.keep fun p hp => (hoth b hb hne p hp).2.1⟩
  have hkids' : (niOf R' id).kids = kk := by rw [i2, hkids]
  refine ⟨i1, by rw [i2]; exact h.ni, h.len, h.filt, h.mem, fun j hj1 hj2 hj3 => ?_, fun j hj => ?_, h.pairs, fun j hj hj3 => ?_, fun j hj hn => ?_, fun j hj => ?_, hs⟩
  · obtain ⟨g1, g2, g3⟩ := h.pend j hj1 hj2 hj3
    have hne : ks.getD (pr.getD j 0).toNat 0 ≠ c := fun e => g2 (by rw [e]; simp)
    refine ⟨g1, g2, fun i hi => ?_⟩
    have hi' := (hothi _ g1 hne i).1 hi
    rw [(hoth _ g1 hne i hi').2.1]
    exact g3 i hi'
  · by_cases e : j = k
    · subst e
      have : (proc ++ [c]).getD j 0 = c := by rw [List.getD_eq_getElem?_getD, ← hplen, List.getElem?_append_right (Nat.le_refl _)]; simp
      rw [this]
      exact ht
    · have hjp : j < proc.length := by omega
      have hb : (proc ++ [c]).getD j 0 ∈ proc := by
        rw [List.getD_eq_getElem?_getD, List.getElem?_append_left hjp, List.getElem?_eq_getElem hjp]
        exact List.getElem_mem _
      have hbk : (proc ++ [c]).getD j 0 ∈ kk := h.inn (.inl (List.mem_append_left _ hb))
      refine (h.tree j (by omega)).keep fun i hi => ?_
      have := hoth _ hbk (fun e2 => hcp (by rw [← e2]; exact hb)) i hi
      exact ⟨this.1, this.2.1⟩
  · by_cases e : j = k
    · subst e
      have : (proc ++ [c]).getD j 0 = c := by rw [List.getD_eq_getElem?_getD, ← hplen, List.getElem?_append_right (Nat.le_refl _)]; simp
      rw [this]
      exact hkp hj3
    · have hjp : j < proc.length := by omega
      have hb : (proc ++ [c]).getD j 0 ∈ proc := by
        rw [List.getD_eq_getElem?_getD, List.getElem?_append_left hjp, List.getElem?_eq_getElem hjp]
        exact List.getElem_mem _
      have hbk : (proc ++ [c]).getD j 0 ∈ kk := h.inn (.inl (List.mem_append_left _ hb))
      exact (h.keeps j (by omega) hj3).keep fun i hi => (hoth _ hbk (fun e2 => hcp (by rw [← e2]; exact hb)) i hi).2.1
  · obtain ⟨g1, g2, g3⟩ := h.frame j hj hn
    have hnc : ¬ Dsc (niOf Rk) c j := fun e => g3 (dsc_kid.2 (.inr ⟨c, hckid, e⟩))
    obtain ⟨k1, k2, k3⟩ := hf j g1 hnc
    refine ⟨k1, k2.trans g2, fun e => ?_⟩
    rcases dsc_kid.1 e with e1 | ⟨b, hb, hd⟩
    · exact g3 (by rw [e1]; exact .self _)
    · rw [hkids'] at hb
      by_cases hbc : b = c
      · rw [hbc] at hd; exact k3 hd
      · exact g3 (dsc_kid.2 (.inr ⟨b, by rw [hkids]; exact hb, (hothi b hb hbc j).1 hd⟩))
  · rcases hc j hj with ⟨g1, g2⟩ | g
    · rcases h.cover j g1 with e | e
      · exact .inl e
      · right
        rcases dsc_kid.1 e with e1 | ⟨b, hb, hd⟩
        · rw [e1]; exact .self _
        · rw [hkids] at hb
          have hbc : b ≠ c := fun e2 => by rw [e2] at hd; exact g2 hd
          exact dsc_kid.2 (.inr ⟨b, by rw [hkids']; exact hb, (hothi b hb hbc j).2 hd⟩)
    · exact .inr (dsc_kid.2 (.inr ⟨c, by rw [hkids']; exact hck, g⟩))
end Go.Proofs.Ytobgcaemnpkbmaa
