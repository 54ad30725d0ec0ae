/- Ea Rmd Rmw Rm2 -/
import Derived.Test.YtobgcaemnpkbmaaGreatD16
namespace Go.Proofs.YtobgcaemnpkbmaaGreat
open Go.RowKit
def widP (R : List RN) : Nat → Nat → List Int
  | 0, _ => []
  | f + 1, a => idAt R a :: (kidsP R (idAt R a)).flatMap (widP R f)
theorem widP_walk (R : List RN) : ∀ (f a : Nat) (d : Int), (walkP R f a d).map (fun x => idAt R x.1) = widP R f a := by
  intro f
  induction f with
  | zero => intro a d; rfl
  | succ f ih =>
    intro a d
    rw [walkP, widP, List.map_cons, List.map_flatMap]
    simp only [ih]
set_option maxHeartbeats 1000000 in
theorem each_rem (R : List RN) (nb : Int → Nat) (D : Nat) (J : List Int → World → Prop) (KO : Int → Option Addr) (KC : Int → Nat) (hfew : R.length ≤ 800)
    (hread : ∀ done w, J done w → ∀ n, n ∈ R → w.cell? ⟨nb n.id, 6, none⟩ = some (.slice (KO n.id) (kidIds R n.id).length (KC n.id)) ∧ ∀ i x, (kidIds R n.id)[i]? = some x → ∃ g, KO n.id = some ⟨g, 0, none⟩ ∧ w.cell? ⟨g, i, none⟩ = some (.pointer (some ⟨nb x, 0, none⟩)))
    (hstep : ∀ done w n, n ∈ R → n.id ∉ done → J done w → Calls Tryz.prog 105 #[.pointer (some ⟨nb n.id, 0, none⟩), .pointer (some ⟨D, 0, none⟩)] w fun e w' => e = .returned (.tuple #[]) ∧ J (done ++ [n.id]) w') (hpos : ∀ n, n ∈ R → 0 < n.id) :
    ∀ (f a : Nat) (done : List Int) (w : World), fitP R f a → (widP R f a).Nodup → (∀ x, x ∈ widP R f a → x ∉ done) → J done w →
      Calls Tryz.prog 68 #[.pointer (some ⟨nb (idAt R a), 0, none⟩), .func (.func 105) #[] #[.pointer (some ⟨D, 0, none⟩)]] w fun e w' => e = .returned (.tuple #[]) ∧ J (done ++ widP R f a) w' := by
  intro f
  induction f with
  | zero => intro a done w h; exact h.elim
  | succ f ih =>
    intro a done w hfit hnd hdone hJ
    obtain ⟨ha, hkids⟩ := hfit
    have hid := idAt_lt ha
    have hm : R[a] ∈ R := List.getElem_mem ha
    have hp := hpos _ hm
    have hlenK := kidIds_length R R[a].id
    have hkl : (kidsP R R[a].id).length = (kidIds R R[a].id).length := by rw [← kids_ids R (by omega), List.length_map]
    have hkid : ∀ i, (hi : i < (kidsP R R[a].id).length) → (kidIds R R[a].id)[i]? = some (idAt R (kidsP R R[a].id)[i]) := fun i hi => by rw [← kids_ids R (by omega), List.getElem?_map, List.getElem?_eq_getElem hi]; rfl
    rw [hid] at hkids
    have e1 : widP R (f + 1) a = R[a].id :: (kidsP R R[a].id).flatMap (widP R f) := by rw [widP, hid]
    rw [e1] at hnd hdone ⊢
    rw [hid]
    have HStep : Hid (Calls Tryz.prog 105 #[.pointer (some ⟨nb R[a].id, 0, none⟩), .pointer (some ⟨D, 0, none⟩)] w fun e w' => e = .returned (.tuple #[]) ∧ J (done ++ [R[a].id]) w') := hide (hstep done w R[a] hm (hdone _ (by simp)) hJ)
    have HIh : Hid (∀ i, (hi : i < (kidsP R R[a].id).length) → ∀ w1, J (done ++ R[a].id :: ((kidsP R R[a].id).take i).flatMap (widP R f)) w1 → Calls Tryz.prog 68 #[.pointer (some ⟨nb (idAt R (kidsP R R[a].id)[i]), 0, none⟩), .func (.func 105) #[] #[.pointer (some ⟨D, 0, none⟩)]] w1 fun e w' => e = .returned (.tuple #[]) ∧ J (done ++ R[a].id :: ((kidsP R R[a].id).take (i + 1)).flatMap (widP R f)) w') := by
      refine hide fun i hi w1 hj => ?_
      have hsplit : (kidsP R R[a].id).take (i + 1) = (kidsP R R[a].id).take i ++ [(kidsP R R[a].id)[i]] := List.take_succ_eq_append_getElem hi
      have hall : (kidsP R R[a].id).flatMap (widP R f) = ((kidsP R R[a].id).take i).flatMap (widP R f) ++ (widP R f (kidsP R R[a].id)[i] ++ ((kidsP R R[a].id).drop (i + 1)).flatMap (widP R f)) := by
        conv => lhs; rw [← List.take_append_drop i (kidsP R R[a].id), List.drop_eq_getElem_cons hi]
        rw [List.flatMap_append, List.flatMap_cons]
      rw [hall, List.nodup_cons, List.nodup_append, List.nodup_append] at hnd
      have := ih (kidsP R R[a].id)[i] (done ++ R[a].id :: ((kidsP R R[a].id).take i).flatMap (widP R f)) w1 (hkids _ (List.getElem_mem hi)) hnd.2.2.1.1 (fun x hx hin => ?_) hj
      · rw [hsplit, List.flatMap_append]
        simpa using this
      · rcases List.mem_append.1 hin with h1 | h1
        · exact hdone x (by rw [hall]; simp [hx]) h1
        · rcases List.mem_cons.1 h1 with rfl | h1
          · exact hnd.1 (by simp [hx])
          · exact hnd.2.2.2 x h1 x (by simp [hx]) rfl
    have HRead := hide hread
    have HKid := hide hkid
    have HKl := hide hkl
    obtain ⟨c6, _⟩ := hread done w hJ R[a] hm
    clear hread hstep ih hkids hnd hdone e1 hJ hkid hkl hid
    generalize hNA : nb R[a].id = NA at *
    have HNA := hide hNA
    generalize hKn : (kidIds R R[a].id).length = KN at *
    have HKN := hide hKn
    have hKN8 : KN ≤ 800 := by omega
    clear hNA hKn c6
    go_enter Tryz.func68, Tryz.ntmps68
    go_wp2_with (first | (go_at_call 105; refine (unhide HStep).mono ?_; rintro e w1 ⟨rfl, hJ1⟩; obtain ⟨c6, _⟩ := unhide HRead _ w1 hJ1 R[a] hm; rw [unhide HNA, unhide HKN] at c6; have HJ1 := hide hJ1; clear hJ1))
    go_loopw [5, 14] (fun _ i wr => ∃ j : Nat, j ≤ KN ∧ i = .int .i64 j ∧ Hid (J (done ++ R[a].id :: ((kidsP R R[a].id).take j).flatMap (widP R f)) wr)) (fun _ i _ => KN - (intOf i).toNat)
    case atStart => exact ⟨0, Nat.zero_le _, rfl, by simpa using HJ1⟩
    case round =>
      obtain ⟨j, hj, rfl, hJj⟩ := hrel
      by_cases hlt : j < KN
      · have hjk : j < (kidsP R R[a].id).length := by rw [unhide HKl]; exact hlt
        obtain ⟨g, hg, cj⟩ := (unhide HRead _ _ (unhide hJj) R[a] hm).2 j _ (unhide HKid j hjk)
        have HC := hide (unhide HIh j hjk _ (unhide hJj))
        have hji : (j : Int) < (KN : Int) := by omega
        rw [hg]
        go_wp2_with (first | (go_at_call 68; refine (unhide HC).mono ?_; rintro e w2 ⟨rfl, hJ2⟩; have HJ2 := hide hJ2; clear hJ2))
        go_roundw
        case rel => exact ⟨j + 1, by omega, by go_num, HJ2⟩
        case measure => simp [intOf]; omega
      · have hjK : j = KN := by omega
        subst hjK
        go_wp2_with fail
        refine bodyPost_end (results_none rfl _ _ _) rfl ?_
        refine ⟨rfl, ?_⟩
        have := unhide hJj
        rwa [← unhide HKl, List.take_length] at this
set_option maxHeartbeats 1000000 in
theorem each_ids (R : List RN) (nb : Int → Nat) (D : Nat) (J : List Int → World → Prop) (KO : Int → Option Addr) (KC : Int → Nat) (hfew : R.length ≤ 800)
    (hread : ∀ done w, J done w → ∀ n, n ∈ R → w.cell? ⟨nb n.id, 6, none⟩ = some (.slice (KO n.id) (kidIds R n.id).length (KC n.id)) ∧ ∀ i x, (kidIds R n.id)[i]? = some x → ∃ g, KO n.id = some ⟨g, 0, none⟩ ∧ w.cell? ⟨g, i, none⟩ = some (.pointer (some ⟨nb x, 0, none⟩)))
    (hstep : ∀ done w n, n ∈ R → n.id ∉ done → J done w → Calls Tryz.prog 69 #[.pointer (some ⟨nb n.id, 0, none⟩), .pointer (some ⟨D, 0, none⟩)] w fun e w' => e = .returned (.tuple #[]) ∧ J (done ++ [n.id]) w') (hpos : ∀ n, n ∈ R → 0 < n.id) :
    ∀ (f a : Nat) (done : List Int) (w : World), fitP R f a → (widP R f a).Nodup → (∀ x, x ∈ widP R f a → x ∉ done) → J done w →
      Calls Tryz.prog 68 #[.pointer (some ⟨nb (idAt R a), 0, none⟩), .func (.func 69) #[] #[.pointer (some ⟨D, 0, none⟩)]] w fun e w' => e = .returned (.tuple #[]) ∧ J (done ++ widP R f a) w' := by
  intro f
  induction f with
  | zero => intro a done w h; exact h.elim
  | succ f ih =>
    intro a done w hfit hnd hdone hJ
    obtain ⟨ha, hkids⟩ := hfit
    have hid := idAt_lt ha
    have hm : R[a] ∈ R := List.getElem_mem ha
    have hp := hpos _ hm
    have hlenK := kidIds_length R R[a].id
    have hkl : (kidsP R R[a].id).length = (kidIds R R[a].id).length := by rw [← kids_ids R (by omega), List.length_map]
    have hkid : ∀ i, (hi : i < (kidsP R R[a].id).length) → (kidIds R R[a].id)[i]? = some (idAt R (kidsP R R[a].id)[i]) := fun i hi => by rw [← kids_ids R (by omega), List.getElem?_map, List.getElem?_eq_getElem hi]; rfl
    rw [hid] at hkids
    have e1 : widP R (f + 1) a = R[a].id :: (kidsP R R[a].id).flatMap (widP R f) := by rw [widP, hid]
    rw [e1] at hnd hdone ⊢
    rw [hid]
    have HStep : Hid (Calls Tryz.prog 69 #[.pointer (some ⟨nb R[a].id, 0, none⟩), .pointer (some ⟨D, 0, none⟩)] w fun e w' => e = .returned (.tuple #[]) ∧ J (done ++ [R[a].id]) w') := hide (hstep done w R[a] hm (hdone _ (by simp)) hJ)
    have HIh : Hid (∀ i, (hi : i < (kidsP R R[a].id).length) → ∀ w1, J (done ++ R[a].id :: ((kidsP R R[a].id).take i).flatMap (widP R f)) w1 → Calls Tryz.prog 68 #[.pointer (some ⟨nb (idAt R (kidsP R R[a].id)[i]), 0, none⟩), .func (.func 69) #[] #[.pointer (some ⟨D, 0, none⟩)]] w1 fun e w' => e = .returned (.tuple #[]) ∧ J (done ++ R[a].id :: ((kidsP R R[a].id).take (i + 1)).flatMap (widP R f)) w') := by
      refine hide fun i hi w1 hj => ?_
      have hsplit : (kidsP R R[a].id).take (i + 1) = (kidsP R R[a].id).take i ++ [(kidsP R R[a].id)[i]] := List.take_succ_eq_append_getElem hi
      have hall : (kidsP R R[a].id).flatMap (widP R f) = ((kidsP R R[a].id).take i).flatMap (widP R f) ++ (widP R f (kidsP R R[a].id)[i] ++ ((kidsP R R[a].id).drop (i + 1)).flatMap (widP R f)) := by
        conv => lhs; rw [← List.take_append_drop i (kidsP R R[a].id), List.drop_eq_getElem_cons hi]
        rw [List.flatMap_append, List.flatMap_cons]
      rw [hall, List.nodup_cons, List.nodup_append, List.nodup_append] at hnd
      have := ih (kidsP R R[a].id)[i] (done ++ R[a].id :: ((kidsP R R[a].id).take i).flatMap (widP R f)) w1 (hkids _ (List.getElem_mem hi)) hnd.2.2.1.1 (fun x hx hin => ?_) hj
      · rw [hsplit, List.flatMap_append]
        simpa using this
      · rcases List.mem_append.1 hin with h1 | h1
        · exact hdone x (by rw [hall]; simp [hx]) h1
        · rcases List.mem_cons.1 h1 with rfl | h1
          · exact hnd.1 (by simp [hx])
          · exact hnd.2.2.2 x h1 x (by simp [hx]) rfl
    have HRead := hide hread
    have HKid := hide hkid
    have HKl := hide hkl
    obtain ⟨c6, _⟩ := hread done w hJ R[a] hm
    clear hread hstep ih hkids hnd hdone e1 hJ hkid hkl hid
    generalize hNA : nb R[a].id = NA at *
    have HNA := hide hNA
    generalize hKn : (kidIds R R[a].id).length = KN at *
    have HKN := hide hKn
    have hKN8 : KN ≤ 800 := by omega
    clear hNA hKn c6
    go_enter Tryz.func68, Tryz.ntmps68
    go_wp2_with (first | (go_at_call 69; refine (unhide HStep).mono ?_; rintro e w1 ⟨rfl, hJ1⟩; obtain ⟨c6, _⟩ := unhide HRead _ w1 hJ1 R[a] hm; rw [unhide HNA, unhide HKN] at c6; have HJ1 := hide hJ1; clear hJ1))
    go_loopw [5, 14] (fun _ i wr => ∃ j : Nat, j ≤ KN ∧ i = .int .i64 j ∧ Hid (J (done ++ R[a].id :: ((kidsP R R[a].id).take j).flatMap (widP R f)) wr)) (fun _ i _ => KN - (intOf i).toNat)
    case atStart => exact ⟨0, Nat.zero_le _, rfl, by simpa using HJ1⟩
    case round =>
      obtain ⟨j, hj, rfl, hJj⟩ := hrel
      by_cases hlt : j < KN
      · have hjk : j < (kidsP R R[a].id).length := by rw [unhide HKl]; exact hlt
        obtain ⟨g, hg, cj⟩ := (unhide HRead _ _ (unhide hJj) R[a] hm).2 j _ (unhide HKid j hjk)
        have HC := hide (unhide HIh j hjk _ (unhide hJj))
        have hji : (j : Int) < (KN : Int) := by omega
        rw [hg]
        go_wp2_with (first | (go_at_call 68; refine (unhide HC).mono ?_; rintro e w2 ⟨rfl, hJ2⟩; have HJ2 := hide hJ2; clear hJ2))
        go_roundw
        case rel => exact ⟨j + 1, by omega, by go_num, HJ2⟩
        case measure => simp [intOf]; omega
      · have hjK : j = KN := by omega
        subst hjK
        go_wp2_with fail
        refine bodyPost_end (results_none rfl _ _ _) rfl ?_
        refine ⟨rfl, ?_⟩
        have := unhide hJj
        rwa [← unhide HKl, List.take_length] at this
end Go.Proofs.YtobgcaemnpkbmaaGreat
namespace Go.Proofs.YtobgcaemnpkbmaaGreat
open Go.RowKit
theorem filter_out_one : ∀ {Q : List RN} {x : Int}, (Q.map (·.id)).Nodup → x ∈ Q.map (·.id) → (Q.filter fun n => n.id != x).length + 1 = Q.length := by
  intro Q x
  induction Q with
  | nil => intro _ h; simp at h
  | cons n Q ih =>
    intro hnd hx
    rw [List.map_cons, List.nodup_cons] at hnd
    by_cases e : n.id = x
    · have : (Q.filter fun m => m.id != x) = Q := List.filter_eq_self.2 fun m hm => by
        simp
        intro e'
        exact hnd.1 (List.mem_map.2 ⟨m, hm, e'.trans e.symm⟩)
      rw [List.filter_cons_of_neg (by simp [e]), this, List.length_cons]
    · rw [List.filter_cons_of_pos (by simp [e]), List.length_cons, List.length_cons]
      rw [List.map_cons, List.mem_cons] at hx
      have := ih hnd.2 (hx.resolve_left fun h => e h.symm)
      omega
def stayP (R : List RN) (L : List Int) : List RN := R.filter fun n => !(L.contains n.id)
theorem stay_mem {R : List RN} {L : List Int} {n : RN} : n ∈ stayP R L ↔ n ∈ R ∧ n.id ∉ L := by
  unfold stayP
  rw [List.mem_filter]
  simp
theorem stay_cons (R : List RN) (x : Int) (L : List Int) : stayP R (x :: L) = (stayP R L).filter fun n => n.id != x := by
  unfold stayP
  rw [List.filter_filter]
  refine List.filter_congr fun n _ => ?_
  by_cases e : n.id = x <;> by_cases e2 : n.id ∈ L <;> simp [e, e2] <;> simp_all
theorem stay_length {R : List RN} (h : (R.map (·.id)).Nodup) : ∀ {L : List Int}, L.Nodup → (∀ x, x ∈ L → x ∈ R.map (·.id)) → (stayP R L).length + L.length = R.length := by
  intro L
  induction L with
  | nil => intro _ _; unfold stayP; simp
  | cons x L ih =>
    intro hnd hin
    rw [List.nodup_cons] at hnd
    have h1 := ih hnd.2 fun y hy => hin y (by simp [hy])
    obtain ⟨n, hn, e⟩ := List.mem_map.1 (hin x (by simp))
    have h2 : ((stayP R L).map (·.id)).Nodup := (List.Sublist.map _ (List.filter_sublist (l := R))).nodup h
    have h3 := filter_out_one h2 (x := x) (List.mem_map.2 ⟨n, stay_mem.2 ⟨hn, by rw [e]; exact hnd.1⟩, e⟩)
    rw [stay_cons, List.length_cons]
    omega
theorem widP_mem {R : List RN} {f a : Nat} {x : Int} : x ∈ widP R f a ↔ ∃ y, y ∈ walkP R f a 0 ∧ idAt R y.1 = x := by
  rw [← widP_walk R f a 0, List.mem_map]
theorem rm_stay {R : List RN} (hI : Ids R) {f a : Nat} (hf : fitP R f a) : rmP R (walkP R f a 0) = stayP R (widP R f a) := by
  have h : ∀ k, k ≤ R.length → rmTo R (walkP R f a 0) k = stayP (R.take k) (widP R f a) := by
    intro k
    induction k with
    | zero => intro _; rfl
    | succ k ih =>
      intro hk
      have hlt : k < R.length := hk
      rw [rmTo, ih (by omega), take_one hlt]
      unfold stayP
      rw [List.filter_append]
      congr 1
      have hd : (R.drop k).take 1 = [R[k]] := by rw [List.drop_eq_getElem_cons hlt]; rfl
      have hg : goneB (walkP R f a 0) k = true ↔ R[k].id ∈ widP R f a := by
        rw [goneB_iff, widP_mem]
        constructor
        · rintro ⟨d, hd⟩
          exact ⟨(k, d), hd, idAt_lt hlt⟩
        · rintro ⟨y, hy, e⟩
          have hyl := (walk_up hI f a 0 hf y hy).1
          rw [idAt_lt hyl] at e
          have := hI.inj _ _ hyl hlt e
          exact ⟨y.2, by rw [← this]; exact hy⟩
      by_cases e : R[k].id ∈ widP R f a
      · rw [if_pos (hg.2 e), List.filter_cons_of_neg (by simp [e])]; rfl
      · rw [if_neg (fun h => e (hg.1 h)), hd, List.filter_cons_of_pos (by simp [e])]; rfl
  unfold rmP
  rw [h _ (Nat.le_refl _), List.take_length]
theorem widP_nodup {R : List RN} {rk : Int → Nat} (hU : Up R rk) (hI : Ids R) {f a : Nat} (hf : fitP R f a) : (widP R f a).Nodup := by
  rw [← widP_walk R f a 0]
  have h1 := walk_nodup hU hI f a 0 hf
  have h2 : (walkP R f a 0).map (fun x => idAt R x.1) = ((walkP R f a 0).map (·.1)).map (idAt R) := by rw [List.map_map]; rfl
  rw [h2]
  have hlt : ∀ x, x ∈ (walkP R f a 0).map (·.1) → x < R.length := fun x hx => by
    obtain ⟨y, hy, rfl⟩ := List.mem_map.1 hx
    exact (walk_up hI f a 0 hf y hy).1
  rw [List.Nodup, List.pairwise_map]
  refine List.Pairwise.imp_of_mem (fun {x y} hx hy hne e => ?_) h1
  rw [idAt_lt (hlt x hx), idAt_lt (hlt y hy)] at e
  exact hne (hI.inj _ _ _ _ e)
theorem loose_up {R : List RN} {rk : Int → Nat} (hU : Up R rk) {k : Nat} (hk : k < R.length) : Up (looseP R k) rk where
  par := fun n hn => by
    rcases loose_mem hk hn with h | rfl
    · exact (hU.par n h).imp id fun h => (loose_same hk _).2 h
    · exact .inl rfl
  rank := fun n hn h0 => by
    rcases loose_mem hk hn with h | rfl
    · exact hU.rank n h h0
    · exact absurd rfl h0
theorem loose_idAt {R : List RN} {k : Nat} (hk : k < R.length) (i : Nat) : idAt (looseP R k) i = idAt R i := by
  rw [looseP_lt hk]
  unfold idAt
  rw [List.getElem?_set]
  by_cases e : k = i
  · subst e; rw [if_pos rfl, if_pos hk, List.getElem?_eq_getElem hk]
  · rw [if_neg e]
theorem loose_parAt {R : List RN} {k : Nat} (hk : k < R.length) {i : Nat} (h : k ≠ i) : parAt (looseP R k) i = parAt R i := by
  rw [looseP_lt hk]
  unfold parAt
  rw [List.getElem?_set, if_neg h]
theorem loose_kidsP {R : List RN} {k : Nat} (hk : k < R.length) {q : Int} (hne : R[k].par ≠ q) : kidsP (looseP R k) q = kidsP R q := by
  unfold kidsP
  by_cases h0 : q = 0
  · rw [if_pos h0, if_pos h0]
  · rw [if_neg h0, if_neg h0, loose_length hk]
    unfold kidsTo
    refine List.filter_congr fun i _ => ?_
    by_cases e : k = i
    · subst e
      have h1 : parAt (looseP R k) k = 0 := by
        rw [looseP_lt hk]
        unfold parAt
        rw [List.getElem?_set, if_pos rfl, if_pos hk]
      rw [h1, parAt_lt hk]
      have h2 : ((0 : Int) == q) = false := beq_false_of_ne fun e => h0 e.symm
      have h3 : (R[k].par == q) = false := beq_false_of_ne hne
      rw [h2, h3]
    · rw [loose_parAt hk e]
theorem loose_wid {R : List RN} {rk : Int → Nat} (hU : Up R rk) {k : Nat} (hk : k < R.length) : ∀ (f a : Nat), rk R[k].id ≤ rk (idAt R a) → widP (looseP R k) f a = widP R f a := by
  intro f
  induction f with
  | zero => intro a _; rfl
  | succ f ih =>
    intro a ha
    rw [widP, widP, loose_idAt hk]
    by_cases h0 : idAt R a = 0
    · rw [h0]; rfl
    · have hne : R[k].par ≠ idAt R a := fun e => by
        have := hU.rank R[k] (List.getElem_mem hk) (by rw [e]; exact h0)
        rw [e] at this
        omega
      rw [loose_kidsP hk hne]
      congr 1
      have hg : ∀ (l : List Nat), (∀ c, c ∈ l → c ∈ kidsP R (idAt R a)) → l.flatMap (widP (looseP R k) f) = l.flatMap (widP R f) := by
        intro l
        induction l with
        | nil => intro _; rfl
        | cons c l ihl =>
          intro hl
          rw [List.flatMap_cons, List.flatMap_cons, ihl fun d hd => hl d (by simp [hd]), ih c (by have := kid_rank hU (hl c (by simp)); omega)]
      exact hg _ fun _ h => h
theorem widP_self {R : List RN} {f a : Nat} (h : 0 < f) : idAt R a ∈ widP R f a := by
  cases f with
  | zero => omega
  | succ f => rw [widP]; simp
theorem rm_loose {R : List RN} {rk : Int → Nat} (hI : Ids R) (hU : Up R rk) {k : Nat} (hk : k < R.length) : rmP R (walkP R R.length k 0) = stayP (looseP R k) (widP (looseP R k) R.length k) := by
  rw [rm_stay hI (fitP_all hU hk), loose_wid hU hk _ _ (by rw [idAt_lt hk]; exact Nat.le_refl _), looseP_lt hk]
  have hin : R[k].id ∈ widP R R.length k := by have := widP_self (R := R) (f := R.length) (a := k) (by omega); rwa [idAt_lt hk] at this
  generalize widP R R.length k = L at *
  unfold stayP
  rw [set_split _ hk]
  conv => lhs; rw [split_at hk]
  simp only [List.filter_append]
  rw [List.filter_cons_of_neg (by simp [hin]), List.filter_cons_of_neg (by simp [hin])]
theorem stay_kids {R : List RN} {L : List Int} {q : Int} (h : ∀ n, n ∈ R → n.par = q → n.id ∉ L) : kidIds (stayP R L) q = kidIds R q := by
  unfold kidIds stayP
  rw [List.filter_filter]
  congr 1
  refine List.filter_congr fun n hn => ?_
  by_cases e : n.par = q
  · simp [e, h n hn e]
  · simp [e]
theorem stay_blk {nb : Int → Nat} {R : List RN} {L : List Int} (i : Int) : blkOf nb (stayP R L) i = if i ∈ L then none else blkOf nb R i := by
  by_cases e : i ∈ L
  · rw [if_pos e]
    exact blkOf_no fun n hn h => (stay_mem.1 hn).2 (by rw [h]; exact e)
  · rw [if_neg e]
    by_cases h : ∃ n, n ∈ R ∧ n.id = i
    · obtain ⟨n, hn, rfl⟩ := h
      rw [blkOf_yes hn, blkOf_yes (stay_mem.2 ⟨hn, e⟩)]
    · rw [blkOf_no (R := R) fun n hn e => h ⟨n, hn, e⟩, blkOf_no fun n hn e => h ⟨n, (stay_mem.1 hn).1, e⟩]
theorem wid_up {R : List RN} (hI : Ids R) {f a : Nat} (hf : fitP R f a) {i : Nat} (hi : i < R.length) (hin : R[i].id ∈ widP R f a) : i = a ∨ ∃ n, n ∈ R ∧ n.id = R[i].par ∧ n.id ∈ widP R f a := by
  revert a
  induction f with
  | zero => intro a hf; exact hf.elim
  | succ f ih =>
    intro a hf hin
    obtain ⟨ha, hk⟩ := hf
    rw [widP, List.mem_cons, idAt_lt ha] at hin
    rcases hin with e | hin
    · exact .inl (hI.inj _ _ _ _ e)
    · right
      obtain ⟨c, hc, hin⟩ := List.mem_flatMap.1 hin
      obtain ⟨hc1, hc2, _⟩ := kidsP_mem hc
      rw [widP, idAt_lt ha]
      rcases ih (hk c (by rw [idAt_lt ha]; exact hc)) hin with rfl | ⟨n, hn, h1, h2⟩
      · rw [parAt_lt hc1] at hc2
        exact ⟨R[a], List.getElem_mem ha, hc2.symm, by simp⟩
      · exact ⟨n, hn, h1, List.mem_cons_of_mem _ (List.mem_flatMap.2 ⟨c, hc, h2⟩)⟩
end Go.Proofs.YtobgcaemnpkbmaaGreat
namespace Go.Proofs.YtobgcaemnpkbmaaGreat
open Go.RowKit
set_option maxRecDepth 100000 in
theorem rem_one {w : World} {D q mb NA : Nat} {f : Int → Option Nat} {N : Nat} (i : Int) (hi : I64 i) (cD : w.cell? ⟨D, 0, none⟩ = some (.pointer (some ⟨q, 0, none⟩))) (cm : w.cell? ⟨q, 1, none⟩ = some (.map (some mb))) (ci : w.cell? ⟨NA, 0, none⟩ = some (.int .i64 i)) (hm : MapAt w mb f N) (hf : (f i).isSome = true) :
    Calls Tryz.prog 105 #[.pointer (some ⟨NA, 0, none⟩), .pointer (some ⟨D, 0, none⟩)] w fun e w' => e = .returned (.tuple #[]) ∧ MapAt w' mb (fun j => if j = i then none else f j) (N - 1) ∧ w.grownBy w' (some mb) ∧ w'.heap.size = w.heap.size := by
  have HM := hide hm
  have HF := hide hf
  clear hm hf
  go_enter Tryz.func105, Tryz.ntmps105
  go_still_tail 8, (by kernel_rfl)
  change wpList _ _ _ _ _ w.drew
  go_wp2_with (first | (refine wpList_map_del _ rfl _ _ rfl rfl (MapAt.heap (w' := w.drew) (unhide HM) rfl) i hi rfl (unhide HF) ?_; intro w2 hm2 hg2 hs2))
  refine bodyPost_end (results_none rfl _ _ _) rfl ⟨rfl, unhide hm2, ⟨(unhide hg2).os, (unhide hg2).tape, (unhide hg2).output, (unhide hg2).size, (unhide hg2).block⟩, hs2⟩
theorem Dom.kids_read {ρ : Roles} {nb : Int → Nat} {mb : Nat} {rt : Option Nat} {w : World} {q : Nat} {R : List RN} {last : Int} (h : Dom ρ nb mb rt w q R last) :
    ∃ (KO : Int → Option Addr) (KC : Int → Nat), ∀ n, n ∈ R → w.cell? ⟨nb n.id, 6, none⟩ = some (.slice (KO n.id) (kidIds R n.id).length (KC n.id)) ∧ ∀ i x, (kidIds R n.id)[i]? = some x → ∃ g, KO n.id = some ⟨g, 0, none⟩ ∧ ρ g = some (n.id, 2) ∧ w.cell? ⟨g, i, none⟩ = some (.pointer (some ⟨nb x, 0, none⟩)) := by
  have h1 : ∀ j : Int, ∃ p : Option Addr × Nat, (∃ n, n ∈ R ∧ n.id = j) → w.cell? ⟨nb j, 6, none⟩ = some (.slice p.1 (kidIds R j).length p.2) ∧ ∀ i x, (kidIds R j)[i]? = some x → ∃ g, p.1 = some ⟨g, 0, none⟩ ∧ ρ g = some (j, 2) ∧ w.cell? ⟨g, i, none⟩ = some (.pointer (some ⟨nb x, 0, none⟩)) := fun j => by
    by_cases hj : ∃ n, n ∈ R ∧ n.id = j
    · obtain ⟨n, hn, rfl⟩ := hj
      obtain ⟨av, kv, hP⟩ := h.node n hn
      rcases hP.krow.2 with ⟨e, h0⟩ | ⟨g, cap, cur, e, _⟩
      · subst e
        refine ⟨(none, 0), fun _ => ⟨by have := cell_of_blk hP.blk 6 _ rfl; rw [h0]; exact this, fun i x hx => ?_⟩⟩
        rw [List.length_eq_zero_iff.1 h0] at hx
        simp at hx
      · subst e
        refine ⟨(some ⟨g, 0, none⟩, cap), fun _ => ⟨cell_of_blk hP.blk 6 _ rfl, fun i x hx => ⟨g, rfl, hP.krole g rfl, ?_⟩⟩⟩
        rw [hP.krow.cellAt i (by have := (List.getElem?_eq_some_iff.1 hx).1; omega)]
        unfold ptrsOf
        rw [List.getElem?_map, hx]
        rfl
    · exact ⟨(none, 0), fun e => absurd e hj⟩
  obtain ⟨f, hf⟩ := Classical.skolem.1 h1
  exact ⟨fun j => (f j).1, fun j => (f j).2, fun n hn => hf n.id ⟨n, hn, rfl⟩⟩
theorem rem_all {ρ : Roles} {nb : Int → Nat} {mb : Nat} {rt : Option Nat} {w : World} {q : Nat} {R : List RN} {last : Int} {k : Nat} (h : Dom ρ nb mb rt w q (looseP R k) last) (hI : Ids R) (hU : ∃ rk, Up R rk) (hk : k < R.length) (h64 : ∀ n, n ∈ R → I64 n.id) {D : Nat} (cD : w.cell? ⟨D, 0, none⟩ = some (.pointer (some ⟨q, 0, none⟩))) (hDm : D ≠ mb) :
    Calls Tryz.prog 68 #[.pointer (some ⟨nb R[k].id, 0, none⟩), .func (.func 105) #[] #[.pointer (some ⟨D, 0, none⟩)]] w fun e w' => e = .returned (.tuple #[]) ∧ Wrote ρ ρ w w' ∧ Dom ρ nb mb rt w' q (rmP R (walkP R R.length k 0)) last := by
  obtain ⟨rk, hU⟩ := hU
  have hI1 := loose_ids hI hk
  have hU1 := loose_up hU hk
  have hl1 := loose_length hk
  have hk1 : k < (looseP R k).length := by rw [hl1]; exact hk
  have hfit := fitP_all hU1 hk1
  rw [hl1] at hfit
  have hnd := widP_nodup hU1 hI1 hfit
  have h641 : ∀ n, n ∈ looseP R k → I64 n.id := fun n hn => by
    obtain ⟨m, hm, e⟩ := (loose_same hk n.id).1 ⟨n, hn, rfl⟩
    rw [← e]; exact h64 m hm
  have hik : idAt (looseP R k) k = R[k].id := by rw [loose_idAt hk, idAt_lt hk]
  rw [rm_loose hI hU hk]
  have hpar0 : (looseP R k)[k].par = 0 := by simp [looseP_lt hk]
  have hR1 : ∀ n, n ∈ looseP R k → ∃ av kv, PNode ρ nb w (looseP R k) n av kv := h.node
  have hmap := h.map
  have hqm : q ≠ mb := fun e => by
    have h1 := h.mrole
    rw [← e, h.role] at h1
    have := (Prod.mk.inj (Option.some.inj h1)).2
    omega
  generalize looseP R k = R1 at *
  have hnbm : ∀ n, n ∈ R1 → nb n.id ≠ mb := fun n hn e => by
    obtain ⟨av, kv, hp⟩ := hR1 n hn
    have h1 := hp.role
    rw [e, h.mrole] at h1
    have := (Prod.mk.inj (Option.some.inj h1)).1
    have := hI1.pos n hn
    omega
  obtain ⟨KO, KC, hread⟩ := h.kids_read
  have hmem : ∀ x, x ∈ widP R1 R.length k → x ∈ R1.map (·.id) := fun x hx => by
    obtain ⟨y, hy, e⟩ := widP_mem.1 hx
    have hl := (walk_up hI1 _ _ _ hfit y hy).1
    exact List.mem_map.2 ⟨R1[y.1], List.getElem_mem hl, by rw [← e, idAt_lt hl]⟩
  rw [← hik]
  refine (each_rem R1 nb D (fun done w' => MapAt w' mb (fun j => if j ∈ done then none else blkOf nb R1 j) (R1.length - done.length) ∧ w'.heap.size = w.heap.size ∧ (∀ b, b ≠ mb → w'.heap[b]? = w.heap[b]?) ∧ w'.os = w.os ∧ w'.tape = w.tape ∧ w'.output = w.output) KO KC h.few ?_ ?_ hI1.pos R.length k [] w hfit hnd (fun _ _ h => by simp at h) ⟨?_, rfl, fun _ _ => rfl, rfl, rfl, rfl⟩ : Calls _ _ _ _ _).mono ?_
  · rintro done w1 ⟨_, _, hb, _⟩ n hn
    obtain ⟨h1, h2⟩ := hread n hn
    refine ⟨(World.cell?_of_block (hb _ (hnbm n hn))).trans h1, fun i x hx => ?_⟩
    obtain ⟨g, e, hg, hc⟩ := h2 i x hx
    refine ⟨g, e, (World.cell?_of_block (hb g fun e => ?_)).trans hc⟩
    rw [e, h.mrole] at hg
    have := (Prod.mk.inj (Option.some.inj hg)).2
    omega
  · rintro done w1 n hn hno ⟨hm1, hs1, hb, ho1, ho2, ho3⟩
    obtain ⟨av, kv, hP⟩ := hR1 n hn
    refine (rem_one n.id (h641 n hn) ((World.cell?_of_block (hb D hDm)).trans cD) ((World.cell?_of_block (hb q hqm)).trans (cell_of_blk h.blk 1 _ rfl)) ((World.cell?_of_block (hb _ (hnbm n hn))).trans (cell_of_blk hP.blk 0 _ rfl)) hm1 (by rw [if_neg hno, blkOf_yes hn]; rfl)).mono ?_
    rintro e w2 ⟨rfl, hm2, hg2, hs2⟩
    refine ⟨rfl, ?_, hs2.trans hs1, fun b hbm => ?_, hg2.os.trans ho1, hg2.tape.trans ho2, hg2.output.trans ho3⟩
    · rw [List.length_append, List.length_singleton, ← Nat.sub_sub]
      have hfe : (fun j => if j ∈ done ++ [n.id] then none else blkOf nb R1 j) = (fun j => if j = n.id then none else if j ∈ done then none else blkOf nb R1 j) := by
        funext j
        by_cases e1 : j = n.id <;> by_cases e2 : j ∈ done <;> simp [e1, e2]
      rw [hfe]
      exact hm2
    · rcases Nat.lt_or_ge b w1.heap.size with hlt | hge
      · exact (hg2.block b hlt fun e => hbm (Option.some.inj e)).trans (hb b hbm)
      · rw [← hb b hbm, Array.getElem?_eq_none (by omega), Array.getElem?_eq_none hge]
  · have hfe : (fun j => if j ∈ ([] : List Int) then none else blkOf nb R1 j) = blkOf nb R1 := by funext j; simp
    rw [hfe]
    exact hmap
  · rintro e w' ⟨rfl, hm', hs', hb', ho1, ho2, ho3⟩
    rw [List.nil_append] at hm'
    have hlen := stay_length hI1.nodup hnd hmem
    have hfe : (fun j => if j ∈ widP R1 R.length k then none else blkOf nb R1 j) = blkOf nb (stayP R1 (widP R1 R.length k)) := by funext j; exact (stay_blk j).symm
    have hle : R1.length - (widP R1 R.length k).length = (stayP R1 (widP R1 R.length k)).length := by omega
    rw [hfe, hle] at hm'
    refine ⟨rfl, ⟨⟨ho1, ho2, ho3, Nat.le_of_eq hs'.symm, fun b _ hn => hb' b fun e => hn (by rw [e, h.mrole]; rfl)⟩, fun _ _ => rfl, fun _ e => .inl e⟩, ⟨(hb' q hqm).trans h.blk, h.role, h.mrole, hm', fun n hn => ?_, fun b e => by rw [hs']; exact h.low b e, by have := h.few; omega⟩⟩
    obtain ⟨hn1, hn2⟩ := stay_mem.1 hn
    obtain ⟨av, kv, hP⟩ := hR1 n hn1
    refine ⟨av, kv, hP.kept (fun b j e => hb' b fun e' => ?_) (fun _ _ => rfl) (stay_kids fun m hm hp hin => ?_)⟩
    · rw [e', h.mrole] at e
      have := (Prod.mk.inj (Option.some.inj e)).1
      have := hI1.pos n hn1
      omega
    · obtain ⟨i, hi, rfl⟩ := List.getElem_of_mem hm
      rcases wid_up hI1 hfit hi hin with rfl | ⟨u, hu, h1, h2⟩
      · rw [hpar0] at hp
        have := hI1.pos n hn1
        omega
      · rw [h1, hp] at h2
        exact hn2 h2
end Go.Proofs.YtobgcaemnpkbmaaGreat
namespace Go.Proofs.YtobgcaemnpkbmaaGreat
open Go.RowKit
set_option maxHeartbeats 2000000 in
set_option maxRecDepth 100000 in
theorem prem_none (ρ : Roles) (nb : Int → Nat) (mb : Nat) (w : World) (q : Nat) (R : List RN) (last : Int) (h : Dom ρ nb mb (some (nb 1)) w q R last) (kd id pa bf ky : Int) (tg nm tx : ByteArray) (hid : I64 id) (hno : ∀ n, n ∈ R → n.id ≠ id) :
    Calls Tryz.prog 88 #[.pointer (some ⟨q, 0, none⟩), .agg #[.int .i64 kd, .int .i64 id, .int .i64 pa, .int .i64 bf, .int .i64 ky, .string tg, .string nm, .string tx]] w fun e w' => e = .returned (.bool false) ∧ Below w.heap.size w w' := by
  have d1 : w.cell? ⟨q, 1, none⟩ = some (.map (some mb)) := cell_of_blk h.blk 1 _ rfl
  have ltq := lt_of_blk h.blk
  have d0 : w.cell? ⟨q, 0, none⟩ = some (.pointer (some ⟨nb 1, 0, none⟩)) := cell_of_blk h.blk 0 _ rfl
  have HLn : Hid (∀ w1, Below w.heap.size w w1 → (Instr.lookup 111 (.map (some mb)) (.int .i64 id) false).run Tryz.prog w1 = .ok (.pointer none) w1) := hide fun w1 hb => by
    have := (h.below hb).map.look hid
    rw [blkOf_no hno] at this
    exact this
  clear h
  go_enter Tryz.func88, Tryz.ntmps88
  go_wp2_with fail
  generalize hw0 : (w.alloc (.cells #[.pointer (some ⟨q, 0, none⟩)] 80)).alloc (.cells #[.int .i64 kd, .int .i64 id, .int .i64 pa, .int .i64 bf, .int .i64 ky, .string tg, .string nm, .string tx] 29) = w0
  have hb0 : Below w.heap.size w w0 := by rw [← hw0]; exact ((Below.refl _ _).alloc (Nat.le_refl _) _).alloc (by simp) _
  have lt0 : w.heap.size + 1 < w0.heap.size := by rw [← hw0]; simp
  have x0 : w0.cell? ⟨w.heap.size, 0, none⟩ = some (.pointer (some ⟨q, 0, none⟩)) := by rw [← hw0]; simp [go_sem]
  have x1 : w0.cell? ⟨w.heap.size + 1, 1, none⟩ = some (.int .i64 id) := by rw [← hw0]; simp [go_sem]
  have y1 : w0.cell? ⟨q, 1, none⟩ = some (.map (some mb)) := (hb0.cell (p := ⟨q, 1, none⟩) ltq).trans d1
  have y0 : w0.cell? ⟨q, 0, none⟩ = some (.pointer (some ⟨nb 1, 0, none⟩)) := (hb0.cell (p := ⟨q, 0, none⟩) ltq).trans d0
  have hln : ∀ n, (Instr.lookup 111 (.map (some mb)) (.int .i64 id) false).run Tryz.prog (w0.drewN n) = .ok (.pointer none) (w0.drewN n) := fun n => HLn.out _ ⟨hb0.os, hb0.tape, hb0.output, hb0.size, hb0.block⟩
  have HB0 := hide hb0
  clear hw0 hb0 d1 d0
  go_big_quiet (fail)
  go_wp2_with fail
  go_ret
  exact ⟨rfl, belowD HB0.out _⟩
set_option maxHeartbeats 2000000 in
set_option maxRecDepth 100000 in
theorem prem_root (ρ : Roles) (nb : Int → Nat) (mb : Nat) (w : World) (q : Nat) (R : List RN) (last : Int) (h : Dom ρ nb mb (some (nb 1)) w q R last) (kd pa bf ky : Int) (tg nm tx : ByteArray) (r : Nat) (hr : r < R.length) (hr1 : R[r].id = 1) :
    Calls Tryz.prog 88 #[.pointer (some ⟨q, 0, none⟩), .agg #[.int .i64 kd, .int .i64 1, .int .i64 pa, .int .i64 bf, .int .i64 ky, .string tg, .string nm, .string tx]] w fun e w' => e = .returned (.bool false) ∧ Below w.heap.size w w' := by
  have d1 : w.cell? ⟨q, 1, none⟩ = some (.map (some mb)) := cell_of_blk h.blk 1 _ rfl
  have ltq := lt_of_blk h.blk
  have d0 : w.cell? ⟨q, 0, none⟩ = some (.pointer (some ⟨nb 1, 0, none⟩)) := cell_of_blk h.blk 0 _ rfl
  obtain ⟨avr, kvr, hPr⟩ := h.node _ (List.getElem_mem hr)
  have HEr : Hid (∀ w1, Below w.heap.size w w1 → (binOp .eql 112 (.pointer (some ⟨nb 1, 0, none⟩)) (.pointer (some ⟨nb 1, 0, none⟩))).run Tryz.prog w1 = .ok (.bool true) w1) := hide fun w1 hb => by
    have h2 : Plain w1 (nb 1) := by rw [← hr1]; exact ⟨_, _, (hb.block _ hPr.lt).trans hPr.blk⟩
    rw [run_eql_ptr h2 h2, beq_self_eq_true]
  have HLn : Hid (∀ w1, Below w.heap.size w w1 → (Instr.lookup 111 (.map (some mb)) (.int .i64 1) false).run Tryz.prog w1 = .ok (.pointer (some ⟨nb 1, 0, none⟩)) w1) := hide fun w1 hb => by
    have := (h.below hb).map.look (i := 1) ⟨by decide, by decide⟩
    rw [← hr1, blkOf_yes (List.getElem_mem hr), hr1] at this
    exact this
  clear h hPr hr1
  go_enter Tryz.func88, Tryz.ntmps88
  go_wp2_with fail
  generalize hw0 : (w.alloc (.cells #[.pointer (some ⟨q, 0, none⟩)] 80)).alloc (.cells #[.int .i64 kd, .int .i64 1, .int .i64 pa, .int .i64 bf, .int .i64 ky, .string tg, .string nm, .string tx] 29) = w0
  have hb0 : Below w.heap.size w w0 := by rw [← hw0]; exact ((Below.refl _ _).alloc (Nat.le_refl _) _).alloc (by simp) _
  have lt0 : w.heap.size + 1 < w0.heap.size := by rw [← hw0]; simp
  have x0 : w0.cell? ⟨w.heap.size, 0, none⟩ = some (.pointer (some ⟨q, 0, none⟩)) := by rw [← hw0]; simp [go_sem]
  have x1 : w0.cell? ⟨w.heap.size + 1, 1, none⟩ = some (.int .i64 1) := by rw [← hw0]; simp [go_sem]
  have y1 : w0.cell? ⟨q, 1, none⟩ = some (.map (some mb)) := (hb0.cell (p := ⟨q, 1, none⟩) ltq).trans d1
  have y0 : w0.cell? ⟨q, 0, none⟩ = some (.pointer (some ⟨nb 1, 0, none⟩)) := (hb0.cell (p := ⟨q, 0, none⟩) ltq).trans d0
  have hln : ∀ n, (Instr.lookup 111 (.map (some mb)) (.int .i64 1) false).run Tryz.prog (w0.drewN n) = .ok (.pointer (some ⟨nb 1, 0, none⟩)) (w0.drewN n) := fun n => HLn.out _ ⟨hb0.os, hb0.tape, hb0.output, hb0.size, hb0.block⟩
  have heqr : ∀ n, (binOp .eql 112 (.pointer (some ⟨nb 1, 0, none⟩)) (.pointer (some ⟨nb 1, 0, none⟩))).run Tryz.prog (w0.drewN n) = .ok (.bool true) (w0.drewN n) := fun n => HEr.out _ ⟨hb0.os, hb0.tape, hb0.output, hb0.size, hb0.block⟩
  have HB0 := hide hb0
  clear hw0 hb0 d1 d0
  go_big_quiet (fail)
  go_wp2_with fail
  go_ret
  exact ⟨rfl, belowD HB0.out _⟩
set_option maxHeartbeats 2000000 in
set_option maxRecDepth 100000 in
theorem prem_ok (ρ : Roles) (nb : Int → Nat) (mb : Nat) (w : World) (q : Nat) (R : List RN) (last : Int) (h : Dom ρ nb mb (some (nb 1)) w q R last) (kd id pa bf ky : Int) (tg nm tx : ByteArray) (hid : I64 id) (hI : Ids R) (hU : ∃ rk, Up R rk) (h64 : ∀ n, n ∈ R → I64 n.id) (k : Nat) (hk : k < R.length) (hki : R[k].id = id) (hk1 : id ≠ 1) (r : Nat) (hr : r < R.length) (hr1 : R[r].id = 1) :
    Calls Tryz.prog 88 #[.pointer (some ⟨q, 0, none⟩), .agg #[.int .i64 kd, .int .i64 id, .int .i64 pa, .int .i64 bf, .int .i64 ky, .string tg, .string nm, .string tx]] w fun e w' => e = .returned (.bool true) ∧ ∃ ρ', Wrote ρ ρ' w w' ∧ Dom ρ' nb mb (some (nb 1)) w' q (rmP R (walkP R R.length k 0)) last := by
  have d1 : w.cell? ⟨q, 1, none⟩ = some (.map (some mb)) := cell_of_blk h.blk 1 _ rfl
  have ltq := lt_of_blk h.blk
  have d0 : w.cell? ⟨q, 0, none⟩ = some (.pointer (some ⟨nb 1, 0, none⟩)) := cell_of_blk h.blk 0 _ rfl
  obtain ⟨avr, kvr, hPr⟩ := h.node _ (List.getElem_mem hr)
  obtain ⟨avk, kvk, hPk⟩ := h.node _ (List.getElem_mem hk)
  have hne : nb id ≠ nb 1 := fun e => by
    have := hPk.nb_inj hPr (by rw [hki, hr1]; exact e)
    rw [hki, hr1] at this
    exact hk1 this
  have HEr : Hid (∀ w1, Below w.heap.size w w1 → (binOp .eql 112 (.pointer (some ⟨nb id, 0, none⟩)) (.pointer (some ⟨nb 1, 0, none⟩))).run Tryz.prog w1 = .ok (.bool false) w1) := hide fun w1 hb => by
    have h2 : Plain w1 (nb 1) := by rw [← hr1]; exact ⟨_, _, (hb.block _ hPr.lt).trans hPr.blk⟩
    have h1 : Plain w1 (nb id) := by rw [← hki]; exact ⟨_, _, (hb.block _ hPk.lt).trans hPk.blk⟩
    have := run_eql_ptr h1 h2
    rwa [beq_false_of_ne (fun e => hne (by simpa using e))] at this
  have HLv : Hid (∀ w1, Below w.heap.size w w1 → Calls Tryz.prog 104 #[.pointer (some ⟨nb id, 0, none⟩)] w1 fun e w' => e = .returned (.tuple #[]) ∧ ∃ ρ', Wrote ρ ρ' w1 w' ∧ Dom ρ' nb mb (some (nb 1)) w' q (looseP R k) last) := hide fun w1 hb => by
    rw [← hki]
    exact leave_any ρ nb mb _ w1 q R last (h.below hb) hI hU k hk
  have HEa : Hid (∀ ρ' w2 D, Dom ρ' nb mb (some (nb 1)) w2 q (looseP R k) last → w2.cell? ⟨D, 0, none⟩ = some (.pointer (some ⟨q, 0, none⟩)) → D ≠ mb → Calls Tryz.prog 68 #[.pointer (some ⟨nb id, 0, none⟩), .func (.func 105) #[] #[.pointer (some ⟨D, 0, none⟩)]] w2 fun e w' => e = .returned (.tuple #[]) ∧ Wrote ρ' ρ' w2 w' ∧ Dom ρ' nb mb (some (nb 1)) w' q (rmP R (walkP R R.length k 0)) last) := hide fun ρ' w2 D hD cD hDm => by
    rw [← hki]
    exact rem_all hD hI hU hk h64 cD hDm
  have HL0 : Hid (∀ b, (ρ b).isSome = true → b < w.heap.size) := hide h.low
  have hkp : w.heap.size ≠ mb := fun e => by have := h.map.lt; omega
  have HLn : Hid (∀ w1, Below w.heap.size w w1 → (Instr.lookup 111 (.map (some mb)) (.int .i64 id) false).run Tryz.prog w1 = .ok (.pointer (some ⟨nb id, 0, none⟩)) w1) := hide fun w1 hb => by
    have := (h.below hb).map.look hid
    rw [← hki, blkOf_yes (List.getElem_mem hk), hki] at this
    exact this
  clear hne
  have HD0 := hide h.mrole
  clear h hPr hPk hki hr1
  go_enter Tryz.func88, Tryz.ntmps88
  go_wp2_with fail
  generalize hw0 : (w.alloc (.cells #[.pointer (some ⟨q, 0, none⟩)] 80)).alloc (.cells #[.int .i64 kd, .int .i64 id, .int .i64 pa, .int .i64 bf, .int .i64 ky, .string tg, .string nm, .string tx] 29) = w0
  have hb0 : Below w.heap.size w w0 := by rw [← hw0]; exact ((Below.refl _ _).alloc (Nat.le_refl _) _).alloc (by simp) _
  have lt0 : w.heap.size + 1 < w0.heap.size := by rw [← hw0]; simp
  have x0 : w0.cell? ⟨w.heap.size, 0, none⟩ = some (.pointer (some ⟨q, 0, none⟩)) := by rw [← hw0]; simp [go_sem]
  have x1 : w0.cell? ⟨w.heap.size + 1, 1, none⟩ = some (.int .i64 id) := by rw [← hw0]; simp [go_sem]
  have y1 : w0.cell? ⟨q, 1, none⟩ = some (.map (some mb)) := (hb0.cell (p := ⟨q, 1, none⟩) ltq).trans d1
  have y0 : w0.cell? ⟨q, 0, none⟩ = some (.pointer (some ⟨nb 1, 0, none⟩)) := (hb0.cell (p := ⟨q, 0, none⟩) ltq).trans d0
  have hln : ∀ n, (Instr.lookup 111 (.map (some mb)) (.int .i64 id) false).run Tryz.prog (w0.drewN n) = .ok (.pointer (some ⟨nb id, 0, none⟩)) (w0.drewN n) := fun n => HLn.out _ ⟨hb0.os, hb0.tape, hb0.output, hb0.size, hb0.block⟩
  have heqr : ∀ n, (binOp .eql 112 (.pointer (some ⟨nb id, 0, none⟩)) (.pointer (some ⟨nb 1, 0, none⟩))).run Tryz.prog (w0.drewN n) = .ok (.bool false) (w0.drewN n) := fun n => HEr.out _ ⟨hb0.os, hb0.tape, hb0.output, hb0.size, hb0.block⟩
  have HB0 := hide hb0
  clear hw0 hb0 d1 d0
  go_big_quiet (fail)
  go_wp2_with fail
  refine (HLv.out _ (belowD HB0.out _)).mono ?_
  rintro e w2 ⟨rfl, ρ1, hw1, hd1⟩
  have cD2 : w2.cell? ⟨w.heap.size, 0, none⟩ = some (.pointer (some ⟨q, 0, none⟩)) := by
    rw [World.cell?_of_block (hw1.1.block w.heap.size (by show w.heap.size < w0.heap.size; omega) (fun e => by have := HL0.out _ e; omega))]
    exact x0
  have HE2 := hide (HEa.out ρ1 w2 w.heap.size hd1 cD2 hkp)
  have HW1 := hide hw1
  clear hw1 hd1 cD2
  go_wp2_with (first | (go_at_call 68; refine (unhide HE2).mono ?_; rintro e w3 ⟨rfl, hw3, hd3⟩))
  go_ret
  exact ⟨rfl, ρ1, Wrote.after (belowD HB0.out _) (HW1.out.trans hw3), hd3⟩
end Go.Proofs.YtobgcaemnpkbmaaGreat
