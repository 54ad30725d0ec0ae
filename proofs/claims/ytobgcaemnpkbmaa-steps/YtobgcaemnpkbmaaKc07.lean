/- Theo Ins2 Rem Theo2 Theo3 Theo4 -/
import Derived.Test.YtobgcaemnpkbmaaKc06
namespace Go.Proofs.Ytobgcaemnpkbmaa
open Go.RowKit
structure Ids (R : List RN) : Prop where
  pos : ∀ n, n ∈ R → 0 < n.id
  inj : ∀ i j, (hi : i < R.length) → (hj : j < R.length) → R[i].id = R[j].id → i = j
theorem kidsTo_mem {R : List RN} {id : Int} {k i : Nat} : i ∈ kidsTo R id k ↔ i < k ∧ parAt R i = id := by
  unfold kidsTo; rw [List.mem_filter, List.mem_range]; simp
theorem kidsP_mem {R : List RN} {id : Int} {i : Nat} (h : i ∈ kidsP R id) : i < R.length ∧ parAt R i = id ∧ id ≠ 0 := by
  unfold kidsP at h
  split at h
  · simp at h
  · next h0 => exact ⟨(kidsTo_mem.1 h).1, (kidsTo_mem.1 h).2, h0⟩
theorem kid_rank {R : List RN} {rk : Int → Nat} (hU : Up R rk) {a i : Nat} (h : i ∈ kidsP R (idAt R a)) : rk (idAt R a) < rk (idAt R i) := by
  obtain ⟨hi, hp, h0⟩ := kidsP_mem h
  rw [idAt_lt hi]
  rw [parAt_lt hi] at hp
  have := hU.rank R[i] (List.getElem_mem hi) (by rw [hp]; exact h0)
  rwa [hp] at this
def above (R : List RN) (rk : Int → Nat) (r : Nat) : Nat := R.countP fun n => decide (r < rk n.id)
theorem above_lt {R : List RN} {rk : Int → Nat} {r s : Nat} (hrs : r < s) {n : RN} (hn : n ∈ R) (hs : rk n.id = s) : above R rk s < above R rk r := by
  unfold above
  induction R with
  | nil => simp at hn
  | cons x R ih =>
    rw [List.countP_cons, List.countP_cons]
    have hle : R.countP (fun n => decide (s < rk n.id)) ≤ R.countP (fun n => decide (r < rk n.id)) := by
      apply List.countP_mono_left
      intro y _ hy
      simp at hy ⊢
      omega
    rcases List.mem_cons.1 hn with rfl | hn
    · have e1 : decide (s < rk n.id) = false := by simp; omega
      have e2 : decide (r < rk n.id) = true := by simp; omega
      rw [e1, e2]
      simp
      omega
    · have := ih hn
      by_cases h1 : s < rk x.id
      · have e1 : decide (s < rk x.id) = true := by simp [h1]
        have e2 : decide (r < rk x.id) = true := by simp; omega
        rw [e1, e2]
        simp
        omega
      · have e1 : decide (s < rk x.id) = false := by simp; omega
        rw [e1]
        simp
        omega
theorem fitP_mono {R : List RN} : ∀ {f a : Nat}, fitP R f a → fitP R (f + 1) a := by
  intro f
  induction f with
  | zero => intro a h; exact absurd h (by simp [fitP])
  | succ f ih => intro a h; exact ⟨h.1, fun k hk => ih (h.2 k hk)⟩
theorem fitP_le {R : List RN} {f g a : Nat} (h : fitP R f a) (hfg : f ≤ g) : fitP R g a := by
  induction hfg with
  | refl => exact h
  | step _ ih => exact fitP_mono ih
theorem fitP_above {R : List RN} {rk : Int → Nat} (hU : Up R rk) : ∀ (m a : Nat), a < R.length → above R rk (rk (idAt R a)) ≤ m → fitP R (m + 1) a := by
  intro m
  induction m with
  | zero =>
    intro a ha h
    refine ⟨ha, fun k hk => ?_⟩
    have hr := kid_rank hU hk
    have hk' := (kidsP_mem hk).1
    have := above_lt (R := R) (rk := rk) hr (List.getElem_mem hk') (by rw [idAt_lt hk'])
    omega
  | succ m ih =>
    intro a ha h
    refine ⟨ha, fun k hk => ?_⟩
    have hr := kid_rank hU hk
    have hk' := (kidsP_mem hk).1
    have := above_lt (R := R) (rk := rk) hr (List.getElem_mem hk') (by rw [idAt_lt hk'])
    exact ih k hk' (by omega)
theorem fitP_all {R : List RN} {rk : Int → Nat} (hU : Up R rk) {a : Nat} (ha : a < R.length) : fitP R R.length a := by
  have h1 : above R rk (rk (idAt R a)) < R.length := by
    have hz := above_lt (R := R) (rk := fun x => rk x + 1) (r := 0) (s := rk (idAt R a) + 1) (by omega) (List.getElem_mem ha) (by rw [idAt_lt ha])
    have h2 : above R (fun x => rk x + 1) (rk (idAt R a) + 1) = above R rk (rk (idAt R a)) := by
      unfold above
      congr 1
      funext n
      simp
    have h3 : above R (fun x => rk x + 1) 0 ≤ R.length := List.countP_le_length
    omega
  exact fitP_le (fitP_above hU (R.length - 1) a ha (by omega)) (by omega)
def upP (R : List RN) (x : Int) : Int := if x = 0 then 0 else parOf R x
def upN (R : List RN) : Nat → Int → Int
  | 0, x => x
  | m + 1, x => upN R m (upP R x)
theorem upN_zero (R : List RN) (m : Nat) : upN R m 0 = 0 := by
  induction m with
  | zero => rfl
  | succ m ih => rw [upN]; have : upP R 0 = 0 := by unfold upP; rw [if_pos rfl]
                 rw [this]; exact ih
theorem upN_add (R : List RN) (m k : Nat) (x : Int) : upN R (m + k) x = upN R k (upN R m x) := by
  induction m generalizing x with
  | zero => rw [Nat.zero_add]; rfl
  | succ m ih => rw [Nat.succ_add, upN, upN, ih]
theorem atP_id {R : List RN} (hI : Ids R) {i : Nat} (hi : i < R.length) : atP R R[i].id = (i : Int) :=
  atP_hit hi rfl (fun j hj hji e => by have := hI.inj j i hj hi e; omega)
theorem upP_id {R : List RN} (hI : Ids R) {i : Nat} (hi : i < R.length) : upP R R[i].id = R[i].par := by
  have h0 := hI.pos R[i] (List.getElem_mem hi)
  unfold upP parOf
  rw [if_neg (by omega), atP_id hI hi]
  exact parAt_lt hi
theorem upN_rank {R : List RN} {rk : Int → Nat} (hU : Up R rk) (hI : Ids R) : ∀ (m : Nat) (x : Int), (∃ n, n ∈ R ∧ n.id = x) → upN R m x ≠ 0 → rk (upN R m x) ≤ rk x ∧ ∃ n, n ∈ R ∧ n.id = upN R m x := by
  intro m
  induction m with
  | zero => intro x hx _; exact ⟨Nat.le_refl _, hx⟩
  | succ m ih =>
    intro x hx h0
    rw [upN] at h0 ⊢
    obtain ⟨n, hn, rfl⟩ := hx
    obtain ⟨i, hi, rfl⟩ := List.getElem_of_mem hn
    rw [upP_id hI hi] at h0 ⊢
    by_cases hp : R[i].par = 0
    · rw [hp, upN_zero] at h0; exact absurd rfl h0
    · have h1 := hU.rank R[i] (List.getElem_mem hi) hp
      have h2 := (hU.par R[i] (List.getElem_mem hi)).resolve_left hp
      have h3 := ih R[i].par h2 h0
      exact ⟨by omega, h3.2⟩
theorem walk_up {R : List RN} (hI : Ids R) : ∀ (f a : Nat) (d : Int), fitP R f a → ∀ x, x ∈ walkP R f a d → x.1 < R.length ∧ ∃ m, upN R m (idAt R x.1) = idAt R a := by
  intro f
  induction f with
  | zero => intro a d h; exact absurd h (by simp [fitP])
  | succ f ih =>
    intro a d h x hx
    rw [walkP] at hx
    rcases List.mem_cons.1 hx with rfl | hx
    · exact ⟨h.1, 0, rfl⟩
    · obtain ⟨k, hk, hx⟩ := List.mem_flatMap.1 hx
      obtain ⟨hl, m, hm⟩ := ih k (d + 1) (h.2 k hk) x hx
      obtain ⟨hk1, hk2, _⟩ := kidsP_mem hk
      refine ⟨hl, m + 1, ?_⟩
      rw [upN_add, hm]
      show upP R (idAt R k) = _
      rw [idAt_lt hk1, upP_id hI hk1, ← parAt_lt hk1]
      exact hk2
theorem nodup_flatMap' {α β : Type} {l : List α} {g : α → List β} (hl : l.Nodup) (h1 : ∀ a, a ∈ l → (g a).Nodup) (h2 : ∀ a b, a ∈ l → b ∈ l → a ≠ b → ∀ x, x ∈ g a → x ∉ g b) : (l.flatMap g).Nodup := by
  induction l with
  | nil => simp
  | cons a l ih =>
    rw [List.flatMap_cons, List.nodup_append]
    have hl' := List.nodup_cons.1 hl
    refine ⟨h1 a (by simp), ih hl'.2 (fun b hb => h1 b (by simp [hb])) (fun b c hb hc => h2 b c (by simp [hb]) (by simp [hc])), fun x hx y hy e => ?_⟩
    subst e
    obtain ⟨b, hb, hy⟩ := List.mem_flatMap.1 hy
    exact h2 a b (by simp) (by simp [hb]) (fun e => hl'.1 (e ▸ hb)) x hx hy
theorem kids_nodup (R : List RN) (id : Int) : (kidsP R id).Nodup := by
  unfold kidsP kidsTo
  split
  · simp
  · exact List.Pairwise.filter _ List.nodup_range
theorem walk_nodup {R : List RN} {rk : Int → Nat} (hU : Up R rk) (hI : Ids R) : ∀ (f a : Nat) (d : Int), fitP R f a → ((walkP R f a d).map (·.1)).Nodup := by
  intro f
  induction f with
  | zero => intro a d h; exact absurd h (by simp [fitP])
  | succ f ih =>
    intro a d h
    rw [walkP, List.map_cons, List.map_flatMap, List.nodup_cons]
    have hmem : ∀ k, k ∈ kidsP R (idAt R a) → ∀ x, x ∈ (walkP R f k (d + 1)).map (·.1) → x < R.length ∧ ∃ m, upN R m (idAt R x) = idAt R k := by
      intro k hk x hx
      obtain ⟨y, hy, rfl⟩ := List.mem_map.1 hx
      exact walk_up hI f k (d + 1) (h.2 k hk) y hy
    have hpos : ∀ i, i < R.length → idAt R i ≠ 0 := fun i hi => by
      rw [idAt_lt hi]
      have := hI.pos R[i] (List.getElem_mem hi)
      omega
    refine ⟨fun hx => ?_, nodup_flatMap' (kids_nodup _ _) (fun k hk => ih k (d + 1) (h.2 k hk)) (fun k1 k2 hk1 hk2 hne x hx1 hx2 => ?_)⟩
    · obtain ⟨k, hk, hx⟩ := List.mem_flatMap.1 hx
      obtain ⟨hl, m, hm⟩ := hmem k hk a hx
      have hr := kid_rank hU hk
      have h1 := upN_rank hU hI m (idAt R a) ⟨R[a], List.getElem_mem hl, (idAt_lt hl).symm⟩ (by rw [hm]; exact hpos k (kidsP_mem hk).1)
      rw [hm] at h1
      omega
    · obtain ⟨hl, m1, e1⟩ := hmem k1 hk1 x hx1
      obtain ⟨_, m2, e2⟩ := hmem k2 hk2 x hx2
      have key : ∀ (p q : Nat) (m1 m2 : Nat), p ∈ kidsP R (idAt R a) → q ∈ kidsP R (idAt R a) → upN R m1 (idAt R x) = idAt R p → upN R m2 (idAt R x) = idAt R q → m1 ≤ m2 → p = q := by
        intro p q m1 m2 hp hq e1 e2 hle
        obtain ⟨p1, p2, _⟩ := kidsP_mem hp
        obtain ⟨q1, _, _⟩ := kidsP_mem hq
        have e3 : upN R (m2 - m1) (idAt R p) = idAt R q := by
          rw [← e1, ← upN_add, show m1 + (m2 - m1) = m2 by omega]; exact e2
        by_cases h0 : m2 - m1 = 0
        · rw [h0] at e3
          have e3 : idAt R p = idAt R q := e3
          rw [idAt_lt p1, idAt_lt q1] at e3
          exact hI.inj p q p1 q1 e3
        · obtain ⟨j, hj⟩ : ∃ j, m2 - m1 = j + 1 := ⟨m2 - m1 - 1, by omega⟩
          rw [hj, upN, idAt_lt p1, upP_id hI p1, ← parAt_lt p1, p2] at e3
          have hr := kid_rank hU hq
          have h1 := upN_rank hU hI j (idAt R a) ⟨R[a]'h.1, List.getElem_mem h.1, (idAt_lt h.1).symm⟩ (by rw [e3]; exact hpos q q1)
          rw [e3] at h1
          omega
      rcases Nat.le_total m1 m2 with hle | hle
      · exact hne (key k1 k2 m1 m2 hk1 hk2 e1 e2 hle)
      · exact hne (key k2 k1 m2 m1 hk2 hk1 e2 e1 hle).symm
theorem nodup_bound {l : List Nat} {n : Nat} (h : l.Nodup) (hb : ∀ x, x ∈ l → x < n) : l.length ≤ n := by
  induction n generalizing l with
  | zero =>
    cases l with
    | nil => exact Nat.le_refl _
    | cons a l => exact absurd (hb a (by simp)) (Nat.not_lt_zero _)
  | succ n ih =>
    by_cases hn : n ∈ l
    · have h1 := ih (h.erase n) (fun x hx => by
        have hx1 := List.mem_of_mem_erase hx
        have hx2 := hb x hx1
        have hx3 : x ≠ n := fun e => by subst e; exact h.not_mem_erase hx
        omega)
      have h2 := List.length_erase_of_mem hn
      omega
    · have h1 := ih h (fun x hx => by
        have hx2 := hb x hx
        have hx3 : x ≠ n := fun e => hn (e ▸ hx)
        omega)
      omega
theorem walk_length {R : List RN} {rk : Int → Nat} (hU : Up R rk) (hI : Ids R) {f a : Nat} {d : Int} (h : fitP R f a) : (walkP R f a d).length ≤ R.length := by
  have h1 := nodup_bound (walk_nodup hU hI f a d h) (n := R.length) (fun x hx => by
    obtain ⟨y, hy, rfl⟩ := List.mem_map.1 hx
    exact (walk_up hI f a d h y hy).1)
  simpa using h1
end Go.Proofs.Ytobgcaemnpkbmaa
namespace Go.Proofs.Ytobgcaemnpkbmaa
open Go.RowKit
structure Pat where
  kind : Int
  id : Int
  par : Int
  bef : Int
  key : Int
  tag : ByteArray
  name : ByteArray
  text : ByteArray
def Pat.val (x : Pat) : Value := .agg #[.int .i64 x.kind, .int .i64 x.id, .int .i64 x.par, .int .i64 x.bef, .int .i64 x.key, .string x.tag, .string x.name, .string x.text]
end Go.Proofs.Ytobgcaemnpkbmaa
namespace Go.Proofs.Ytobgcaemnpkbmaa
open Go.RowKit
def goneB (W : List (Nat × Int)) (i : Nat) : Bool := W.any fun x => x.1 == i
def rmTo (R : List RN) (W : List (Nat × Int)) : Nat → List RN
  | 0 => []
  | k + 1 => rmTo R W k ++ (if goneB W k then [] else (R.drop k).take 1)
def rmP (R : List RN) (W : List (Nat × Int)) : List RN := rmTo R W R.length
theorem rmTo_mem {R : List RN} {W : List (Nat × Int)} {k : Nat} {n : RN} (h : n ∈ rmTo R W k) : n ∈ R := by
  induction k with
  | zero => simp [rmTo] at h
  | succ k ih =>
    rw [rmTo] at h
    rcases List.mem_append.1 h with h | h
    · exact ih h
    · split at h
      · simp at h
      · exact List.mem_of_mem_drop (List.mem_of_mem_take h)
end Go.Proofs.Ytobgcaemnpkbmaa
namespace Go.Proofs.Ytobgcaemnpkbmaa
open Go.RowKit
theorem Ids.of_nodup {R : List RN} (hp : ∀ n, n ∈ R → 0 < n.id) (h : (R.map (·.id)).Nodup) : Ids R := by
  refine ⟨hp, fun i j hi hj e => ?_⟩
  have hpw := List.pairwise_iff_getElem.1 h
  rcases Nat.lt_trichotomy i j with hij | hij | hij
  · exact absurd (by rw [List.getElem_map, List.getElem_map]; exact e) (hpw i j (by simpa using hi) (by simpa using hj) hij)
  · exact hij
  · exact absurd (by rw [List.getElem_map, List.getElem_map]; exact e.symm) (hpw j i (by simpa using hj) (by simpa using hi) hij)
theorem Ids.nodup {R : List RN} (h : Ids R) : (R.map (·.id)).Nodup := by
  refine List.pairwise_iff_getElem.2 fun i j hi hj hij e => ?_
  have := h.inj i j (by simpa using hi) (by simpa using hj) (by simpa using e)
  omega
def restTo (R : List RN) (fr : Nat) : Nat → List RN
  | 0 => []
  | k + 1 => restTo R fr k ++ (if k = fr then [] else (R.drop k).take 1)
theorem rest_perm {R : List RN} {fr : Nat} : ∀ k, k ≤ R.length → (R.take k).Perm (restTo R fr k ++ (if h : fr < k ∧ fr < R.length then [R[fr]'h.2] else [])) := by
  intro k
  induction k with
  | zero => intro _; simp [restTo]
  | succ k ih =>
    intro hk
    have ih := ih (by omega)
    rw [List.take_succ_eq_append_getElem (by omega), restTo]
    by_cases h : k = fr
    · subst h
      rw [if_pos rfl, dif_pos ⟨by omega, by omega⟩]
      rw [dif_neg (by omega), List.append_nil] at ih
      rw [List.append_nil]
      exact ih.append_right [R[k]]
    · rw [if_neg h, drop_one (by omega)]
      by_cases h2 : fr < k
      · rw [dif_pos ⟨by omega, by omega⟩] at ih
        rw [dif_pos ⟨by omega, by omega⟩]
        refine (ih.append_right [R[k]]).trans ?_
        rw [List.append_assoc, List.append_assoc]
        exact List.Perm.append_left _ (List.perm_append_comm)
      · rw [dif_neg (by omega), List.append_nil] at ih
        rw [dif_neg (by omega), List.append_nil]
        exact ih.append_right [R[k]]
theorem ins_perm {R : List RN} {n : RN} {fr : Nat} {bf : Int} (hI : Ids R) : ∀ k, k ≤ R.length → (insTo R n fr bf k).Perm (restTo R fr k ++ (if bf ≠ 0 ∧ ∃ i, i < k ∧ idAt R i = bf then [n] else [])) := by
  intro k
  induction k with
  | zero => intro _; simp [insTo, restTo]
  | succ k ih =>
    intro hk
    have ih := ih (by omega)
    rw [insTo, restTo]
    by_cases hb : bf ≠ 0 ∧ idAt R k = bf
    · have hno : ¬ (bf ≠ 0 ∧ ∃ i, i < k ∧ idAt R i = bf) := fun ⟨_, i, hi, e⟩ => by
        have := hI.inj i k (by omega) (by omega) (by rw [← idAt_lt (by omega), ← idAt_lt (by omega), e, hb.2])
        omega
      rw [if_neg hno, List.append_nil] at ih
      have hyes : bf ≠ 0 ∧ ∃ i, i < k + 1 ∧ idAt R i = bf := ⟨hb.1, k, by omega, hb.2⟩
      rw [if_pos hb, if_pos hyes, List.append_assoc, List.append_assoc]
      exact ih.append List.perm_append_comm
    · rw [if_neg hb, List.append_nil]
      have he : (bf ≠ 0 ∧ ∃ i, i < k + 1 ∧ idAt R i = bf) ↔ (bf ≠ 0 ∧ ∃ i, i < k ∧ idAt R i = bf) := by
        constructor
        · rintro ⟨h0, i, hi, e⟩
          refine ⟨h0, i, ?_, e⟩
          by_cases hik : i = k
          · subst hik; exact absurd ⟨h0, e⟩ hb
          · omega
        · rintro ⟨h0, i, hi, e⟩
          exact ⟨h0, i, by omega, e⟩
      simp only [he]
      refine (ih.append_right _).trans ?_
      rw [List.append_assoc, List.append_assoc]
      exact List.Perm.append_left _ List.perm_append_comm
theorem insP_perm {R : List RN} {n : RN} {fr : Nat} {bf : Int} (hI : Ids R) (hfr : fr < R.length) (hb : bf = 0 ∨ ∃ i, i < R.length ∧ idAt R i = bf) :
    (insP R n fr bf).Perm (restTo R fr R.length ++ [n]) ∧ R.Perm (restTo R fr R.length ++ [R[fr]]) := by
  have h1 := rest_perm (R := R) (fr := fr) R.length (Nat.le_refl _)
  rw [List.take_length, dif_pos ⟨hfr, hfr⟩] at h1
  refine ⟨?_, h1⟩
  have h2 := ins_perm (n := n) (fr := fr) (bf := bf) hI R.length (Nat.le_refl _)
  unfold insP
  by_cases h0 : bf = 0
  · rw [if_neg (fun h => h.1 h0), List.append_nil] at h2
    rw [if_pos h0]
    exact h2.append_right [n]
  · rw [if_pos ⟨h0, hb.resolve_left h0⟩] at h2
    rw [if_neg h0, List.append_nil]
    exact h2
theorem insP_length {R : List RN} {n : RN} {fr : Nat} {bf : Int} (hI : Ids R) (hfr : fr < R.length) (hb : bf = 0 ∨ ∃ i, i < R.length ∧ idAt R i = bf) : (insP R n fr bf).length = R.length := by
  have h := insP_perm (n := n) hI hfr hb
  have h1 := h.1.length_eq
  have h2 := h.2.length_eq
  rw [List.length_append] at h1 h2
  simp at h1 h2
  omega
theorem insP_mem {R : List RN} {n : RN} {fr : Nat} {bf : Int} (hI : Ids R) (hfr : fr < R.length) (hb : bf = 0 ∨ ∃ i, i < R.length ∧ idAt R i = bf) : ∀ m, m ∈ insP R n fr bf → m ∈ R ∨ m = n := by
  intro m hm
  have h := insP_perm (n := n) hI hfr hb
  rcases List.mem_append.1 (h.1.mem_iff.1 hm) with hm | hm
  · exact .inl (h.2.mem_iff.2 (List.mem_append.2 (.inl hm)))
  · exact .inr (List.mem_singleton.1 hm)
theorem insP_ids {R : List RN} {n : RN} {fr : Nat} {bf : Int} (hI : Ids R) (hfr : fr < R.length) (hb : bf = 0 ∨ ∃ i, i < R.length ∧ idAt R i = bf) (hn : n.id = R[fr].id) : Ids (insP R n fr bf) := by
  have h := insP_perm (n := n) hI hfr hb
  refine Ids.of_nodup (fun m hm => ?_) ?_
  · rcases insP_mem hI hfr hb m hm with hm | rfl
    · exact hI.pos m hm
    · rw [hn]; exact hI.pos _ (List.getElem_mem hfr)
  · have e1 := (h.1.map (·.id)).nodup_iff
    have e2 := (h.2.map (·.id)).nodup_iff
    rw [List.map_append] at e1 e2
    simp only [List.map_cons, List.map_nil, hn] at e1 e2
    exact e1.2 (e2.1 hI.nodup)
end Go.Proofs.Ytobgcaemnpkbmaa
namespace Go.Proofs.Ytobgcaemnpkbmaa
open Go.RowKit
theorem restTo_mem {R : List RN} {fr : Nat} : ∀ {k : Nat} {m : RN}, k ≤ R.length → m ∈ restTo R fr k → ∃ i, ∃ hi : i < R.length, i ≠ fr ∧ m = R[i] := by
  intro k
  induction k with
  | zero => intro m _ h; simp [restTo] at h
  | succ k ih =>
    intro m hk h
    rw [restTo] at h
    rcases List.mem_append.1 h with h | h
    · exact ih (by omega) h
    · by_cases e : k = fr
      · rw [if_pos e] at h; simp at h
      · rw [if_neg e, drop_one (by omega)] at h
        exact ⟨k, by omega, e, List.mem_singleton.1 h⟩
theorem inP_no {R : List RN} {rk : Int → Nat} (hU : Up R rk) (hI : Ids R) {other : Int} (h0 : other ≠ 0) : ∀ (f : Nat) (x : Int), (x = 0 ∨ ∃ n, n ∈ R ∧ n.id = x) → (x = 0 ∨ rk x < f) → inP R f x other = false → ∀ m, upN R m x ≠ other := by
  intro f
  induction f with
  | zero =>
    intro x _ hf _ m
    rcases hf with rfl | hf
    · rw [upN_zero]; exact fun e => h0 e.symm
    · omega
  | succ f ih =>
    intro x hx hf h m
    by_cases hz : x = 0
    · subst hz; rw [upN_zero]; exact fun e => h0 e.symm
    · rw [inP, if_neg hz] at h
      by_cases ho : x = other
      · rw [if_pos ho] at h; cases h
      · rw [if_neg ho] at h
        cases m with
        | zero => exact ho
        | succ m =>
          rw [upN]
          obtain ⟨n, hn, rfl⟩ := hx.resolve_left hz
          obtain ⟨i, hi, rfl⟩ := List.getElem_of_mem hn
          have e1 : parOf R R[i].id = R[i].par := by have := upP_id hI hi; unfold upP at this; rwa [if_neg hz] at this
          rw [upP_id hI hi]
          rw [e1] at h
          refine ih R[i].par (hU.par _ (List.getElem_mem hi)) ?_ h m
          by_cases hp : R[i].par = 0
          · exact .inl hp
          · right
            have := hU.rank R[i] (List.getElem_mem hi) hp
            have := hf.resolve_left hz
            omega
theorem insP_up {R : List RN} {rk : Int → Nat} (hU : Up R rk) (hI : Ids R) {fr : Nat} {bf pa : Int} (hfr : fr < R.length) (hb : bf = 0 ∨ ∃ i, i < R.length ∧ idAt R i = bf) (hpa : ∃ n, n ∈ R ∧ n.id = pa) (hno : ∀ m, upN R m pa ≠ R[fr].id) :
    ∃ rk', Up (insP R { R[fr] with par := pa } fr bf) rk' := by
  classical
  have hperm := insP_perm (n := { R[fr] with par := pa }) hI hfr hb
  have hin : ∀ x, (∃ n, n ∈ R ∧ n.id = x) → ∃ n, n ∈ insP R { R[fr] with par := pa } fr bf ∧ n.id = x := by
    rintro x ⟨n, hn, rfl⟩
    rcases List.mem_append.1 (hperm.2.mem_iff.1 hn) with h | h
    · exact ⟨n, hperm.1.mem_iff.2 (List.mem_append.2 (.inl h)), rfl⟩
    · have := List.mem_singleton.1 h
      subst this
      exact ⟨{ R[fr] with par := pa }, hperm.1.mem_iff.2 (List.mem_append.2 (.inr (by simp))), rfl⟩
  have hmem : ∀ m, m ∈ insP R { R[fr] with par := pa } fr bf → (∃ i, ∃ hi : i < R.length, i ≠ fr ∧ m = R[i]) ∨ m = { R[fr] with par := pa } := by
    intro m hm
    rcases List.mem_append.1 (hperm.1.mem_iff.1 hm) with h | h
    · exact .inl (restTo_mem (Nat.le_refl _) h)
    · exact .inr (List.mem_singleton.1 h)
  refine ⟨fun x => if ∃ j, upN R j x = R[fr].id then rk x + rk pa + 1 else rk x, fun m hm => ?_, fun m hm hp => ?_⟩
  · rcases hmem m hm with ⟨i, hi, _, rfl⟩ | rfl
    · exact (hU.par _ (List.getElem_mem hi)).imp id (hin _)
    · exact .inr (hin pa hpa)
  · rcases hmem m hm with ⟨i, hi, hne, rfl⟩ | rfl
    · have hr := hU.rank _ (List.getElem_mem hi) hp
      have hiff : (∃ j, upN R j R[i].par = R[fr].id) ↔ ∃ j, upN R j R[i].id = R[fr].id := by
        constructor
        · rintro ⟨j, e⟩
          exact ⟨j + 1, by rw [upN, upP_id hI hi]; exact e⟩
        · rintro ⟨j, e⟩
          cases j with
          | zero =>
            have e : R[i].id = R[fr].id := e
            exact absurd (hI.inj i fr hi hfr e) hne
          | succ j => exact ⟨j, by rw [upN, upP_id hI hi] at e; exact e⟩
      simp only [hiff]
      split <;> omega
    · have h1 : ¬ ∃ j, upN R j pa = R[fr].id := fun ⟨j, e⟩ => hno j e
      have h2 : ∃ j, upN R j R[fr].id = R[fr].id := ⟨0, rfl⟩
      show (if ∃ j, upN R j pa = R[fr].id then _ else _) < (if ∃ j, upN R j R[fr].id = R[fr].id then _ else _)
      rw [if_neg h1, if_pos h2]
      show rk pa < rk R[fr].id + rk pa + 1
      omega
theorem walk_closed {R : List RN} : ∀ (f a : Nat) (d : Int), fitP R f a → ∀ x, x ∈ walkP R f a d → ∀ i, i ∈ kidsP R (idAt R x.1) → ∃ d', (i, d') ∈ walkP R f a d := by
  intro f
  induction f with
  | zero => intro a d h; exact absurd h (by simp [fitP])
  | succ f ih =>
    intro a d h x hx i hi
    rw [walkP] at hx ⊢
    rcases List.mem_cons.1 hx with rfl | hx
    · refine ⟨d + 1, List.mem_cons.2 (.inr (List.mem_flatMap.2 ⟨i, hi, ?_⟩))⟩
      have := h.2 i hi
      cases f with
      | zero => exact absurd this (by simp [fitP])
      | succ f => rw [walkP]; simp
    · obtain ⟨k, hk, hx⟩ := List.mem_flatMap.1 hx
      obtain ⟨d', hd'⟩ := ih k (d + 1) (h.2 k hk) x hx i hi
      exact ⟨d', List.mem_cons.2 (.inr (List.mem_flatMap.2 ⟨k, hk, hd'⟩))⟩
theorem goneB_iff {W : List (Nat × Int)} {i : Nat} : goneB W i = true ↔ ∃ d, (i, d) ∈ W := by
  unfold goneB
  rw [List.any_eq_true]
  constructor
  · rintro ⟨⟨a, d⟩, h, e⟩
    have e : a = i := by simpa using e
    subst e
    exact ⟨d, h⟩
  · rintro ⟨d, h⟩
    exact ⟨(i, d), h, by simp⟩
theorem rmTo_get {R : List RN} {W : List (Nat × Int)} : ∀ {k : Nat} {m : RN}, k ≤ R.length → (m ∈ rmTo R W k ↔ ∃ i, ∃ hi : i < R.length, i < k ∧ goneB W i = false ∧ m = R[i]) := by
  intro k
  induction k with
  | zero => intro m _; simp [rmTo]
  | succ k ih =>
    intro m hk
    rw [rmTo, List.mem_append, ih (by omega)]
    constructor
    · rintro (⟨i, hi, h1, h2, h3⟩ | h)
      · exact ⟨i, hi, by omega, h2, h3⟩
      · cases hg : goneB W k with
        | true => rw [hg] at h; simp at h
        | false =>
          rw [hg, if_neg (by simp), drop_one (by omega)] at h
          exact ⟨k, by omega, by omega, hg, List.mem_singleton.1 h⟩
    · rintro ⟨i, hi, h1, h2, h3⟩
      by_cases hik : i = k
      · subst hik
        right
        rw [h2, if_neg (by simp), drop_one hi]
        exact List.mem_singleton.2 h3
      · exact .inl ⟨i, hi, by omega, h2, h3⟩
theorem rmTo_sub (R : List RN) (W : List (Nat × Int)) : ∀ k, k ≤ R.length → (rmTo R W k).Sublist (R.take k) := by
  intro k
  induction k with
  | zero => intro _; simp [rmTo]
  | succ k ih =>
    intro hk
    have hk' : k < R.length := by omega
    rw [rmTo, List.take_succ_eq_append_getElem hk']
    refine (ih (by omega)).append ?_
    split
    · exact List.nil_sublist _
    · rw [drop_one hk']; exact List.Sublist.refl _
theorem rmP_ids {R : List RN} {W : List (Nat × Int)} (hI : Ids R) : Ids (rmP R W) := by
  have h := rmTo_sub R W R.length (Nat.le_refl _)
  rw [List.take_length] at h
  exact Ids.of_nodup (fun n hn => hI.pos n (h.subset hn)) ((h.map (·.id)).nodup hI.nodup)
theorem rmP_up {R : List RN} {rk : Int → Nat} (hU : Up R rk) (_hI : Ids R) {f a : Nat} {d : Int} (h : fitP R f a) : Up (rmP R (walkP R f a d)) rk := by
  have hmem : ∀ m, m ∈ rmP R (walkP R f a d) → ∃ i, ∃ hi : i < R.length, goneB (walkP R f a d) i = false ∧ m = R[i] := fun m hm => by
    obtain ⟨i, hi, _, h2, h3⟩ := (rmTo_get (Nat.le_refl _)).1 hm
    exact ⟨i, hi, h2, h3⟩
  refine ⟨fun m hm => ?_, fun m hm hp => ?_⟩
  · obtain ⟨i, hi, hg, rfl⟩ := hmem m hm
    by_cases hp : R[i].par = 0
    · exact .inl hp
    · obtain ⟨n, hn, e⟩ := (hU.par _ (List.getElem_mem hi)).resolve_left hp
      obtain ⟨j, hj, rfl⟩ := List.getElem_of_mem hn
      refine .inr ⟨R[j], (rmTo_get (Nat.le_refl _)).2 ⟨j, hj, hj, ?_, rfl⟩, e⟩
      cases hgj : goneB (walkP R f a d) j with
      | false => rfl
      | true =>
        obtain ⟨d', hd'⟩ := goneB_iff.1 hgj
        have hik : i ∈ kidsP R (idAt R j) := by
          unfold kidsP
          rw [idAt_lt hj, e, if_neg hp]
          exact kidsTo_mem.2 ⟨hi, parAt_lt hi⟩
        have := goneB_iff.2 (walk_closed f a d h (j, d') hd' i hik)
        rw [hg] at this
        cases this
  · obtain ⟨i, hi, _, rfl⟩ := hmem m hm
    exact hU.rank _ (List.getElem_mem hi) hp
theorem set_ids {R : List RN} {k : Nat} {n : RN} (hI : Ids R) (hk : k < R.length) (hn : n.id = R[k].id) : Ids (R.set k n) := by
  refine Ids.of_nodup (fun m hm => ?_) ?_
  · rcases List.mem_or_eq_of_mem_set hm with h | rfl
    · exact hI.pos m h
    · rw [hn]; exact hI.pos _ (List.getElem_mem hk)
  · have e : (R.set k n).map (·.id) = R.map (·.id) := by
      rw [List.map_set]
      apply List.ext_getElem?
      intro j
      by_cases hjk : k = j
      · subst hjk
        rw [List.getElem?_set_self (by simpa using hk), List.getElem?_map, List.getElem?_eq_getElem hk, hn]
        rfl
      · rw [List.getElem?_set_ne hjk]
    rw [e]
    exact hI.nodup
theorem set_up {R : List RN} {rk : Int → Nat} {k : Nat} {n : RN} (hU : Up R rk) (hk : k < R.length) (hn : n.id = R[k].id) (hp : n.par = R[k].par) : Up (R.set k n) rk := by
  have hin : ∀ x, (∃ m, m ∈ R ∧ m.id = x) → ∃ m, m ∈ R.set k n ∧ m.id = x := by
    rintro x ⟨m, hm, rfl⟩
    obtain ⟨i, hi, rfl⟩ := List.getElem_of_mem hm
    by_cases hik : k = i
    · subst hik; exact ⟨n, List.mem_set hk n, hn⟩
    · refine ⟨R[i], ?_, rfl⟩
      have : (R.set k n)[i]'(by simpa using hi) = R[i] := List.getElem_set_ne hik _
      rw [← this]
      exact List.getElem_mem _
  refine ⟨fun m hm => ?_, fun m hm h0 => ?_⟩
  · rcases List.mem_or_eq_of_mem_set hm with h | rfl
    · exact (hU.par m h).imp id (hin _)
    · rw [hp]; exact (hU.par _ (List.getElem_mem hk)).imp id (hin _)
  · rcases List.mem_or_eq_of_mem_set hm with h | rfl
    · exact hU.rank m h h0
    · rw [hp] at h0 ⊢; rw [hn]; exact hU.rank _ (List.getElem_mem hk) h0
theorem more_ids {R : List RN} {n : RN} (hI : Ids R) (h0 : 0 < n.id) (hn : ∀ m, m ∈ R → m.id < n.id) : Ids (R ++ [n]) := by
  refine Ids.of_nodup (fun m hm => ?_) ?_
  · rcases List.mem_append.1 hm with h | h
    · exact hI.pos m h
    · rw [List.mem_singleton.1 h]; exact h0
  · rw [List.map_append, List.nodup_append]
    refine ⟨hI.nodup, by simp, fun x hx y hy e => ?_⟩
    obtain ⟨m, hm, rfl⟩ := List.mem_map.1 hx
    simp at hy
    have := hn m hm
    omega
theorem more_up {R : List RN} {rk : Int → Nat} {n : RN} (hU : Up R rk) (hn : n.par = 0) : Up (R ++ [n]) rk := by
  refine ⟨fun m hm => ?_, fun m hm h0 => ?_⟩
  · rcases List.mem_append.1 hm with h | h
    · exact (hU.par m h).imp id (fun ⟨x, hx, e⟩ => ⟨x, List.mem_append.2 (.inl hx), e⟩)
    · rw [List.mem_singleton.1 h]; exact .inl hn
  · rcases List.mem_append.1 hm with h | h
    · exact hU.rank m h h0
    · rw [List.mem_singleton.1 h] at h0; exact absurd hn h0
end Go.Proofs.Ytobgcaemnpkbmaa
namespace Go.Proofs.Ytobgcaemnpkbmaa
open Go.RowKit
theorem setTo_mem (l : List (ByteArray × ByteArray)) (nm vl : ByteArray) : ∀ k, k ≤ l.length → ∀ x, x ∈ (setTo l nm vl k).1 → x ∈ l ∨ x = (nm, vl) := by
  intro k
  induction k with
  | zero => intro _ x h; simp [setTo] at h
  | succ k ih =>
    intro hk x h
    have hk' : k < l.length := by omega
    have ih := ih (by omega) x
    have ha : attAt l k = l[k] := by simp [attAt, hk']
    rw [setTo] at h
    simp only [ha] at h
    have hm : l[k] ∈ l := List.getElem_mem hk'
    have ho : ∀ y, y ∈ (if (setTo l nm vl k).2 = false ∧ Op.bytesLess l[k].1.toList nm.toList = false then (setTo l nm vl k).1 ++ [(nm, vl)] else (setTo l nm vl k).1) → y ∈ (setTo l nm vl k).1 ∨ y = (nm, vl) := by
      intro y hy
      split at hy
      · rcases List.mem_append.1 hy with h | h
        · exact .inl h
        · exact .inr (List.mem_singleton.1 h)
      · exact .inl hy
    split at h
    · rcases ho x h with h | h
      · exact ih h
      · exact .inr h
    · rcases List.mem_append.1 h with h | h
      · rcases ho x h with h | h
        · exact ih h
        · exact .inr h
      · exact .inl (by rw [List.mem_singleton.1 h]; exact hm)
theorem setP_mem {l : List (ByteArray × ByteArray)} {nm vl : ByteArray} {x : ByteArray × ByteArray} (h : x ∈ setP l nm vl) : x ∈ l ∨ x = (nm, vl) := by
  unfold setP at h
  split at h
  · exact setTo_mem l nm vl _ (Nat.le_refl _) x h
  · rcases List.mem_append.1 h with h | h
    · exact setTo_mem l nm vl _ (Nat.le_refl _) x h
    · exact .inr (List.mem_singleton.1 h)
theorem unsetP_mem {l : List (ByteArray × ByteArray)} {nm : ByteArray} {x : ByteArray × ByteArray} (h : x ∈ unsetP l nm) : x ∈ l := (List.mem_filter.1 h).1
end Go.Proofs.Ytobgcaemnpkbmaa
