/- Ij Ik -/
import Derived.Test.YtobgcaemnpkbmaaMd39
namespace Go.Proofs.Ytobgcaemnpkbmaa
open Go.RowKit
theorem cut_filter {P : Int → Bool} {h : Int} : ∀ (l A B : List Int), l.filter P = A ++ h :: B → h ∉ A → (l.takeWhile (fun i => i != h)).filter P = A ∧ (l.dropWhile (fun i => i != h)).filter P = h :: B
  | [], A, B, e, _ => by
    have := congrArg List.length e
    simp at this
  | a :: l, A, B, e, hA => by
    by_cases hah : a = h
    · subst hah
      have e0 : A = [] := by
        cases A with
        | nil => rfl
        | cons b A =>
          have hb : b = a := by
            by_cases hp : P a = true
            · rw [List.filter_cons_of_pos hp] at e
              exact ((List.cons.inj e).1).symm
            · rw [List.filter_cons_of_neg hp] at e
              have hm : a ∈ l.filter P := by rw [e]; simp
              exact absurd (List.mem_filter.1 hm).2 hp
          exact absurd (by rw [hb]; simp) hA
      subst e0
      simp only [List.nil_append] at e
      simp [e]
    · have ht : (a != h) = true := by simpa using hah
      rw [List.takeWhile_cons_of_pos (p := fun i => i != h) ht, List.dropWhile_cons_of_pos (p := fun i => i != h) ht]
      by_cases hp : P a = true
      · rw [List.filter_cons_of_pos hp] at e ⊢
        cases A with
        | nil => exact absurd (List.cons.inj e).1 hah
        | cons b A =>
          obtain ⟨e1, e2⟩ := List.cons.inj e
          obtain ⟨g1, g2⟩ := cut_filter l A B e2 fun hm => hA (List.mem_cons_of_mem _ hm)
          exact ⟨by rw [g1, e1], g2⟩
      · rw [List.filter_cons_of_neg hp] at e ⊢
        exact cut_filter l A B e hA
theorem insB4_mem {bf c : Int} {l : List Int} (b : Int) : b ∈ insB4 bf c l ↔ b = c ∨ b ∈ l := by
  unfold insB4
  split
  · simp [or_comm]
  · rw [List.mem_append, List.mem_append, List.mem_singleton]
    have : b ∈ l ↔ b ∈ l.takeWhile (fun i => i != bf) ∨ b ∈ l.dropWhile (fun i => i != bf) := by
      rw [← List.mem_append, List.takeWhile_append_dropWhile]
    rw [this]
    constructor
    · rintro ((h | h) | h)
      · exact .inr (.inl h)
      · exact .inl h
      · exact .inr (.inr h)
    · rintro (h | h | h)
      · exact .inl (.inr h)
      · exact .inl (.inl h)
      · exact .inr h
def headOr (sk : List Int) : Int := match sk with
  | [] => 0
  | h :: _ => h
theorem ins_filter {kk proc sk : List Int} {c : Int} (hf : kk.filter (fun b => proc.contains b || sk.contains b) = proc ++ sk) (hnd : kk.Nodup) (hpos : ∀ b, b ∈ kk → b ≠ 0) (hp : c ∉ proc) (hs : c ∉ sk) :
    (insB4 (headOr sk) c (kk.filter (fun j => j != c))).filter (fun b => (proc ++ [c]).contains b || sk.contains b) = (proc ++ [c]) ++ sk := by
  have hpc : proc.contains c = false := by simpa using hp
  have hsc : sk.contains c = false := by simpa using hs
  have e1 : ∀ l : List Int, (∀ b, b ∈ l → b ≠ c) → l.filter (fun b => (proc ++ [c]).contains b || sk.contains b) = l.filter (fun b => proc.contains b || sk.contains b) := fun l hl => by
    refine List.filter_congr fun b hb => ?_
    have := hl b hb
    simp [this]
  have e2 : (kk.filter (fun j => j != c)).filter (fun b => proc.contains b || sk.contains b) = proc ++ sk := by
    rw [← hf, List.filter_filter]
    refine List.filter_congr fun b _ => ?_
    by_cases hb : b = c
    · subst hb; rw [hpc, hsc]; rfl
    · have : (b != c) = true := by simpa using hb
      rw [this, Bool.and_true]
  have hne : ∀ b, b ∈ kk.filter (fun j => j != c) → b ≠ c := fun b hb => by
    have := (List.mem_filter.1 hb).2
    simpa using this
  have hc1 : [c].filter (fun b => (proc ++ [c]).contains b || sk.contains b) = [c] := by simp
  unfold insB4
  cases sk with
  | nil =>
    rw [if_pos (show headOr [] = 0 from rfl), List.filter_append, hc1, e1 _ hne, e2]
    simp
  | cons h t =>
    have hmem : h ∈ kk := by
      have : h ∈ proc ++ h :: t := by simp
      rw [← hf] at this
      exact (List.mem_filter.1 this).1
    have hh0 : headOr (h :: t) ≠ 0 := hpos h hmem
    rw [if_neg hh0]
    have hhp : h ∉ proc := fun hm => by
      have h1 : (proc ++ h :: t).Nodup := by rw [← hf]; exact hnd.filter _
      exact (List.nodup_append.1 h1).2.2 h hm h (by simp) rfl
    obtain ⟨g1, g2⟩ := cut_filter _ proc t e2 hhp
    show (((kk.filter (fun j => j != c)).takeWhile (fun i => i != h)) ++ [c] ++ ((kk.filter (fun j => j != c)).dropWhile (fun i => i != h))).filter _ = _
    rw [List.filter_append, List.filter_append, hc1, e1 _ fun b hb => hne b ((List.takeWhile_sublist _).subset hb), e1 _ fun b hb => hne b ((List.dropWhile_sublist _).subset hb), g1, g2]
theorem KInv.stay {T : Int → NI} {L : Nat → Nod} {R : List RN} {id : Int} {y : NI} {ks pr : List Int} {s : Nat} {ps : List (Nat × Nat)} {f k sz : Nat} {Rk : List RN} {kk proc sk : List Int} {c : Int} (h : KInv T L R id y ks pr s ps f k k sz Rk kk proc (c :: sk)) (hc : c = ks.getD (pr.getD k 0).toNat 0) (hinj : ∀ j, k < j → j < ps.length → pr.getD j 0 ≠ -1 → ks.getD (pr.getD j 0).toNat 0 ≠ c) :
    KInv T L R id y ks pr s ps f k (k + 1) sz Rk kk (proc ++ [c]) sk := by
  have hpl := h.len
  refine ⟨h.hid, h.ni, by simp [hpl], ?_, fun b hb => ?_, fun j hj1 hj2 hj3 => ?_, fun j hj => ?_, fun j hj hj3 => ?_, fun j hj hj3 => ?_, h.frame, h.cover, h.size⟩
  · have e : kk.filter (fun b => (proc ++ [c]).contains b || sk.contains b) = kk.filter (fun b => proc.contains b || (c :: sk).contains b) := List.filter_congr fun b _ => by simp [Bool.or_assoc]
    rw [e, h.filt]
    simp
  · rcases h.mem b hb with e | ⟨j, h1, h2, h3, h4⟩
    · exact .inl (List.mem_append_left _ e)
    · by_cases e : j = k
      · subst e; left; rw [h4, ← hc]; simp
      · exact .inr ⟨j, by omega, h2, h3, h4⟩
  · obtain ⟨g1, g2, g3⟩ := h.pend j (by omega) hj2 hj3
    refine ⟨g1, fun e => ?_, g3⟩
    rcases List.mem_append.1 e with e | e
    · exact g2 e
    · exact hinj j (by omega) hj2 hj3 (List.mem_singleton.1 e)
  · have := h.tree j hj
    rw [List.getD_eq_getElem?_getD, List.getElem?_append_left (by omega), ← List.getD_eq_getElem?_getD]
    exact this
  · by_cases e : j = k
    · subst e
      rw [List.getD_eq_getElem?_getD, ← hpl, List.getElem?_append_right (Nat.le_refl _), hpl]
      simpa using hc
    · rw [List.getD_eq_getElem?_getD, List.getElem?_append_left (by omega), ← List.getD_eq_getElem?_getD]
      exact h.pairs j (by omega) hj3
  · rw [List.getD_eq_getElem?_getD, List.getElem?_append_left (by omega), ← List.getD_eq_getElem?_getD]
    exact h.keeps j hj hj3
theorem KInv.put {T : Int → NI} {L : Nat → Nod} {R : List RN} {id : Int} {y : NI} {ks pr : List Int} {s : Nat} {ps : List (Nat × Nat)} {f k sz : Nat} {Rk Ri : List RN} {l : Int} {kk proc sk : List Int} {c : Int} (h : KInv T L R id y ks pr s ps f k k sz Rk kk proc sk) (hok : DocOk Rk l)
    (hhas : ∀ i, Has Ri i ↔ Has Rk i ∨ i = c) (hold : ∀ i, Has Rk i → i ≠ id → niOf Ri i = niOf Rk i) (hid : niOf Ri id = { y with kids := insB4 (headOr sk) c (kk.filter (fun j => j != c)) }) (hc : (c ∈ kk ∧ (pr.getD k 0 ≠ -1 → c = ks.getD (pr.getD k 0).toNat 0)) ∨ (¬ Has Rk c ∧ ¬ Has R c ∧ (niOf Ri c).kids = [] ∧ pr.getD k 0 = -1)) (hcp : c ∉ proc) (hcs : c ∉ sk) (hinj : ∀ j, k < j → j < ps.length → pr.getD j 0 ≠ -1 → ks.getD (pr.getD j 0).toNat 0 ≠ c) (hprk : c ∈ kk → pr.getD k 0 ≠ -1) {sz' : Nat} (hs : Ri.length ≤ R.length + sz') :
    KInv T L R id y ks pr s ps f k (k + 1) sz' Ri (insB4 (headOr sk) c (kk.filter (fun j => j != c))) (proc ++ [c]) sk := by
  have hI := hok.ids
  have hkids := h.kids
  have hpl := h.len
  have hnd : kk.Nodup := by rw [← hkids]; exact kin_nodup hI h.hid
  have hKid : ∀ b, b ∈ kk → b ∈ (niOf Rk id).kids := fun b hb => by rw [hkids]; exact hb
  have hpos : ∀ b, b ∈ kk → b ≠ 0 := fun b hb => by have := has_pos hI (kid_has hI h.hid (hKid b hb)); omega
  have hsub : ∀ b, b ∈ kk → ∀ p, Dsc (niOf Rk) b p → niOf Ri p = niOf Rk p := fun b hb p hp =>
    hold p (dsc_has hI (kid_has hI h.hid (hKid b hb)) hp) fun e => by subst e; exact dsc_not hok h.hid (hKid b hb) hp
  have hiff : ∀ b, b ∈ kk → ∀ j, Dsc (niOf Ri) b j ↔ Dsc (niOf Rk) b j := fun b hb j => ⟨fun e => e.back (hsub b hb), fun e => e.keep (hsub b hb)⟩
  have hkids' : (niOf Ri id).kids = insB4 (headOr sk) c (kk.filter (fun j => j != c)) := by rw [hid]
  have hmem' : ∀ b, b ∈ insB4 (headOr sk) c (kk.filter (fun j => j != c)) ↔ b = c ∨ b ∈ kk := fun b => by
    rw [insB4_mem, List.mem_filter]
    constructor
    · rintro (e | e)
      · exact .inl e
      · exact .inr e.1
    · rintro (e | e)
      · exact .inl e
      · by_cases e2 : b = c
        · exact .inl e2
        · exact .inr ⟨e, by simpa using e2⟩
  have hidc : Has Ri id := (hhas id).2 (.inl h.hid)
  refine ⟨hidc, hid, by simp [hpl], ins_filter h.filt hnd hpos hcp hcs, fun b hb => ?_, fun j hj1 hj2 hj3 => ?_, fun j hj => ?_, fun j hj hj3 => ?_, fun j hj hj3 => ?_, fun j hj hn => ?_, fun j hj => ?_, hs⟩
  · rcases (hmem' b).1 hb with e | e
    · left; rw [e]; simp
    · rcases h.mem b e with e | ⟨j, h1, h2, h3, h4⟩
      · exact .inl (List.mem_append_left _ e)
      · by_cases e2 : j = k
        · subst e2
          left
          rcases hc with ⟨_, g⟩ | ⟨_, _, _, g⟩
          · rw [h4, ← g h3]; simp
          · exact absurd g h3
        · exact .inr ⟨j, by omega, h2, h3, h4⟩
  · obtain ⟨g1, g2, g3⟩ := h.pend j (by omega) hj2 hj3
    refine ⟨(hmem' _).2 (.inr g1), fun e => ?_, fun i hi => ?_⟩
    · rcases List.mem_append.1 e with e | e
      · exact g2 e
      · exact hinj j (by omega) hj2 hj3 (List.mem_singleton.1 e)
    · have hi' := (hiff _ g1 i).1 hi
      rw [hsub _ g1 i hi']
      exact g3 i hi'
  · have hjp : j < proc.length := by omega
    have hb : proc.getD j 0 ∈ proc := getD_mem hjp
    have e : (proc ++ [c]).getD j 0 = proc.getD j 0 := by rw [List.getD_eq_getElem?_getD, List.getElem?_append_left hjp, ← List.getD_eq_getElem?_getD]
    rw [e]
    have hbk := h.inn (.inl hb)
    exact (h.tree j hj).keep fun i hi => ⟨(hhas i).2 (.inl (dsc_has hI (kid_has hI h.hid (hKid _ hbk)) hi)), hsub _ hbk i hi⟩
  · by_cases e : j = k
    · subst e
      rw [List.getD_eq_getElem?_getD, ← hpl, List.getElem?_append_right (Nat.le_refl _), hpl]
      rcases hc with ⟨_, g⟩ | ⟨_, _, _, g⟩
      · simpa using g hj3
      · exact absurd g hj3
    · rw [List.getD_eq_getElem?_getD, List.getElem?_append_left (by omega), ← List.getD_eq_getElem?_getD]
      exact h.pairs j (by omega) hj3
  · have hjp : j < proc.length := by omega
    have hb : proc.getD j 0 ∈ proc := getD_mem hjp
    have e : (proc ++ [c]).getD j 0 = proc.getD j 0 := by rw [List.getD_eq_getElem?_getD, List.getElem?_append_left hjp, ← List.getD_eq_getElem?_getD]
    rw [e]
    exact (h.keeps j hj hj3).keep fun i hi => hsub _ (h.inn (.inl hb)) i hi
  · obtain ⟨g1, g2, g3⟩ := h.frame j hj hn
    have hji : j ≠ id := fun e => g3 (by rw [e]; exact .self _)
    refine ⟨(hhas j).2 (.inl g1), (hold j g1 hji).trans g2, fun e => ?_⟩
    rcases dsc_kid.1 e with e1 | ⟨b, hb, hd⟩
    · exact hji e1
    · rw [hkids'] at hb
      rcases (hmem' b).1 hb with e2 | e2
      · subst e2
        rcases hc with ⟨g, _⟩ | ⟨_, g4, g5, _⟩
        · exact g3 (dsc_kid.2 (.inr ⟨b, hKid b g, (hiff b g j).1 hd⟩))
        · rcases dsc_kid.1 hd with e3 | ⟨d, hd1, _⟩
          · rw [e3] at hj; exact g4 hj
          · rw [g5] at hd1; cases hd1
      · exact g3 (dsc_kid.2 (.inr ⟨b, hKid b e2, (hiff b e2 j).1 hd⟩))
  · rcases (hhas j).1 hj with g | g
    · rcases h.cover j g with e | e
      · exact .inl e
      · right
        rcases dsc_kid.1 e with e1 | ⟨b, hb, hd⟩
        · rw [e1]; exact .self _
        · rw [hkids] at hb
          exact dsc_kid.2 (.inr ⟨b, by rw [hkids']; exact (hmem' b).2 (.inr hb), (hiff b hb j).2 hd⟩)
    · right
      rw [g]
      exact dsc_kid.2 (.inr ⟨c, by rw [hkids']; exact (hmem' c).2 (.inl rfl), .self _⟩)
end Go.Proofs.Ytobgcaemnpkbmaa
namespace Go.Proofs.Ytobgcaemnpkbmaa
open Go.RowKit
def kidAt (ks : List Int) (p : Int) : Int := ks.getD p.toNat 0
theorem bef_head (ks : List Int) (stay : List Int) : befOf ks stay = headOr (stay.map (kidAt ks)) := by cases stay <;> rfl
theorem drop_cons {pr : List Int} {k : Nat} (h : k < pr.length) : pr.drop k = pr.getD k 0 :: pr.drop (k + 1) := by
  rw [List.drop_eq_getElem_cons h, List.getD_eq_getElem?_getD, List.getElem?_eq_getElem h]
  rfl
theorem drop_mem {pr : List Int} {k : Nat} {v : Int} (h : v ∈ pr.drop k) : ∃ j, k ≤ j ∧ j < pr.length ∧ pr.getD j 0 = v := by
  obtain ⟨i, hi, rfl⟩ := List.getElem_of_mem h
  rw [List.length_drop] at hi
  refine ⟨k + i, by omega, by omega, ?_⟩
  rw [List.getElem_drop, List.getD_eq_getElem?_getD, List.getElem?_eq_getElem (by omega)]
  rfl
theorem one_of {ln : Nod} (h : elB ln = true ∨ txB ln = true) : oneB (nodOf ln.t ln.k ln.x) = true := by
  unfold oneB
  rcases h with h | h
  · unfold elB at h ⊢
    simp only [Bool.and_eq_true] at h
    simp only [nodOf, h.1.1.1, h.1.1.2, Bool.true_and, Bool.or_eq_true]
    left
    rw [Bool.and_eq_true]
    exact ⟨h.1.2, by decide⟩
  · unfold txB at h ⊢
    simp only [Bool.and_eq_true] at h
    simp only [nodOf, h.1.1.1, h.2, Bool.true_and, Bool.or_eq_true, Bool.and_true]
    right
    rw [Bool.and_eq_true]
    exact ⟨h.1.1.2, by decide⟩
structure KFix (T : Int → NI) (L : Nat → Nod) (br : Br) (f : Nat) (R : List RN) (id : Int) (y : NI) (ks pr : List Int) (s n : Nat) (ps : List (Nat × Nat)) : Prop where
  bring : BringS T L br f
  fine : ∀ i, NiFine (T i)
  piece : PieceOk L s n
  parts : ps = partsOf L s n
  plen : pr.length = ps.length
  fuel : n ≤ f + 1
  tag : y.tag = (L s).t
  room : R.length + n ≤ 801
  inj : ∀ i j, i < ps.length → j < ps.length → pr.getD i 0 ≠ -1 → kidAt ks (pr.getD i 0) = kidAt ks (pr.getD j 0) → pr.getD j 0 ≠ -1 → i = j
  key : ∀ j, j < ps.length → pr.getD j 0 ≠ -1 → (T (kidAt ks (pr.getD j 0))).tag = (L (s + (ps.getD j (0, 0)).1)).t ∧ (T (kidAt ks (pr.getD j 0))).key = (L (s + (ps.getD j (0, 0)).1)).k
theorem KFix.span {T : Int → NI} {L : Nat → Nod} {br : Br} {f : Nat} {R : List RN} {id : Int} {y : NI} {ks pr : List Int} {s n : Nat} {ps : List (Nat × Nat)} (F : KFix T L br f R id y ks pr s n ps) {k : Nat} (hk : k < ps.length) : PieceOk L (s + (ps.getD k (0, 0)).1) ((ps.getD k (0, 0)).2 - (ps.getD k (0, 0)).1) ∧ (1 ≤ (ps.getD k (0, 0)).1 ∧ (ps.getD k (0, 0)).1 < (ps.getD k (0, 0)).2 ∧ (ps.getD k (0, 0)).2 ≤ n) ∧ elB (L s) = true ∧ sizeTo ps k + ((ps.getD k (0, 0)).2 - (ps.getD k (0, 0)).1) + 1 ≤ n := by
  have hm : ps.getD k (0, 0) ∈ ps := by rw [List.getD_eq_getElem?_getD, List.getElem?_eq_getElem hk]; exact List.getElem_mem _
  have hm2 := hm
  rw [F.parts] at hm2
  obtain ⟨h1, h2, h3⟩ := F.piece.part (by rw [← F.parts] at hm2 ⊢; exact hm)
  refine ⟨h1, h2, h3, ?_⟩
  have h4 : sizeTo ps (k + 1) + 1 ≤ n := by
    rw [F.parts]
    exact sizeTo_lt _ F.piece.pos (by rw [F.parts] at hk; exact hk)
  rw [sizeTo] at h4
  exact h4
theorem KFix.go {T : Int → NI} {L : Nat → Nod} {br : Br} {f : Nat} {R : List RN} {id : Int} {y : NI} {ks pr : List Int} {s n : Nat} {ps : List (Nat × Nat)} (F : KFix T L br f R id y ks pr s n ps) {k : Nat} (hk : k < ps.length) {Rm : List RN} {kk proc sk : List Int} {c : Int} {sz : Nat} (h : KInv T L R id y ks pr s ps f k (k + 1) sz Rm kk (proc ++ [c]) sk) (hsz : sz ≤ sizeTo ps k + 1) {l : Int} (hok : DocOk Rm l) (hF : Fine Rm) {x : NI} (hx : niOf Rm c = x) (hxf : NiFine x) (ht : x.tag = (L (s + (ps.getD k (0, 0)).1)).t) (hy : x.key = (L (s + (ps.getD k (0, 0)).1)).k) (hT : ∀ j, Dsc (niOf Rm) c j → j ≠ c → niOf Rm j = T j) (hxk : pr.getD k 0 ≠ -1 → x = T c) :
    ∃ R', RunL Rm l (br c x (s + (ps.getD k (0, 0)).1) ((ps.getD k (0, 0)).2 - (ps.getD k (0, 0)).1) l).1 R' (br c x (s + (ps.getD k (0, 0)).1) ((ps.getD k (0, 0)).2 - (ps.getD k (0, 0)).1) l).2 ∧ KInv T L R id y ks pr s ps f (k + 1) (k + 1) (sizeTo ps (k + 1)) R' kk (proc ++ [c]) sk := by
  obtain ⟨g1, g2, g3, g4⟩ := F.span hk
  have hroom := F.room
  have hsize := h.size
  have hc : Has Rm c := kid_has hok.ids h.hid (by rw [h.kids]; exact h.inn (.inl (by simp)))
  have hfu := F.fuel
  obtain ⟨R', r1, r2, r3, r4, r5, r6⟩ := F.bring Rm l c x _ _ hok hF (by omega) g1 hc hx hxf ht hy (by omega) hT
  refine ⟨R', r1, h.brought hok r2 r3 r4 (fun e => by rw [← hxk e]; exact r6) ?_⟩
  rw [sizeTo]
  omega
theorem KFix.step {T : Int → NI} {L : Nat → Nod} {br : Br} {f : Nat} {R : List RN} {id : Int} {y : NI} {ks pr : List Int} {s n : Nat} {ps : List (Nat × Nat)} (F : KFix T L br f R id y ks pr s n ps) {k : Nat} (hk : k < ps.length) {Rk : List RN} {kk proc : List Int} {q : KS} (h : KInv T L R id y ks pr s ps f k k (sizeTo ps k) Rk kk proc (q.stay.map (kidAt ks))) (hok : DocOk Rk q.last) (hF : Fine Rk) (hst : q.stay.Sublist (pr.drop k)) (hsn : ∀ v, v ∈ q.stay → v ≠ -1) (hnew : ∀ i, Has R i → i ≤ q.last) :
    ∃ R' kk' proc' P, (kidStep br T L id ks s q (ps.getD k (0, 0)) (pr.getD k 0)).pats = q.pats ++ P ∧ RunL Rk q.last P R' (kidStep br T L id ks s q (ps.getD k (0, 0)) (pr.getD k 0)).last ∧ KInv T L R id y ks pr s ps f (k + 1) (k + 1) (sizeTo ps (k + 1)) R' kk' proc' ((kidStep br T L id ks s q (ps.getD k (0, 0)) (pr.getD k 0)).stay.map (kidAt ks)) ∧ (kidStep br T L id ks s q (ps.getD k (0, 0)) (pr.getD k 0)).stay.Sublist (pr.drop (k + 1)) := by
  have hI := hok.ids
  have hkids := h.kids
  have hpk : k < pr.length := by rw [F.plen]; exact hk
  have hdc := drop_cons hpk
  obtain ⟨g1, g2, g3, g4⟩ := F.span hk
  have hroom := F.room
  have hsize := h.size
  have hinj : ∀ c, c = kidAt ks (pr.getD k 0) → pr.getD k 0 ≠ -1 → ∀ j, k < j → j < ps.length → pr.getD j 0 ≠ -1 → ks.getD (pr.getD j 0).toNat 0 ≠ c := fun c hc hp j h1 h2 h3 e => by
    have := F.inj j k h2 hk h3 (by rw [← hc]; exact e) hp
    omega
  have hytag : (niOf Rk id).tag.toList.isEmpty = false := by
    rw [h.ni]
    show y.tag.toList.isEmpty = false
    rw [F.tag]
    exact (el_tag g3).1
  by_cases hhd : q.stay.head? = some (pr.getD k 0)
  · -- it stays
    cases hq : q.stay with
    | nil => rw [hq] at hhd; cases hhd
    | cons p t =>
      have ep : p = pr.getD k 0 := by rw [hq] at hhd; simpa using hhd
      have hp1 : pr.getD k 0 ≠ -1 := by rw [← ep]; exact hsn p (by rw [hq]; simp)
      rw [kidStep_stay hhd]
      have h' : KInv T L R id y ks pr s ps f k k (sizeTo ps k) Rk kk proc (kidAt ks (pr.getD k 0) :: t.map (kidAt ks)) := by
        have h2 := h
        rw [hq, List.map_cons, ep] at h2
        exact h2
      have hm := h'.stay rfl (hinj _ rfl hp1)
      obtain ⟨e1, e2, e3⟩ := h.pend k (Nat.le_refl _) hk hp1
      have hkey := F.key k hk hp1
      obtain ⟨R', r1, r2⟩ := F.go hk hm (Nat.le_succ _) hok hF (e3 _ (.self _)) (F.fine _) hkey.1 hkey.2 (fun j hj _ => e3 j hj) (fun _ => rfl)
      refine ⟨R', kk, proc ++ [kidAt ks (pr.getD k 0)], _, rfl, r1, ?_, ?_⟩
      · show KInv _ _ _ _ _ _ _ _ _ _ _ _ _ _ _ _ (q.stay.tail.map (kidAt ks))
        rw [hq]
        exact r2
      · show q.stay.tail.Sublist _
        rw [hq]
        rw [hq, hdc, ep] at hst
        exact (List.cons_sublist_cons.1 hst)
  · -- it does not
    have hst2 : q.stay.Sublist (pr.drop (k + 1)) := by
      rw [hdc] at hst
      cases hq : q.stay with
      | nil => exact List.nil_sublist _
      | cons a t =>
        rw [hq] at hst hhd
        cases hst with
        | cons _ h2 => exact h2
        | cons_cons _ h2 => exact absurd rfl hhd
    have hbf : befOf ks q.stay = headOr (q.stay.map (kidAt ks)) := bef_head ks q.stay
    have hskk : ∀ b, b ∈ q.stay.map (kidAt ks) → b ∈ kk := fun b hb => h.inn (.inr hb)
    by_cases hp1 : pr.getD k 0 = -1
    · -- a new one
      rw [kidStep_new hhd hp1]
      generalize hc : q.last + 1 = c
      generalize hln : L (s + (ps.getD k (0, 0)).1) = ln
      have hnode : elB ln = true ∨ txB ln = true := by have := g1.node 0 (by omega); rw [Nat.add_zero, hln] at this; exact this
      have hlast := hok.last_pos
      have hnoK : ¬ Has Rk c := fun ⟨m, hm, e⟩ => by have := hok.top m hm; omega
      have hnoR : ¬ Has R c := fun e => by have := hnew c e; omega
      obtain ⟨c1, c2, c3⟩ := eff_create (R := Rk) (last := q.last) (by omega) (one_of hnode)
      rw [hc] at c1 c2 c3
      have hokc := hok.did c1
      rw [c2, c3] at hokc
      have hFc := hF.did hI c1
      rw [c2] at hFc
      have hIc := hokc.ids
      generalize hRc : Rk ++ [newRN ⟨1, c, 0, 0, ln.k, ln.t, ⟨#[]⟩, ln.x⟩] = Rc at *
      have hhasc : ∀ i, Has Rc i ↔ Has Rk i ∨ i = c := fun i => by rw [← hRc]; exact more_has Rk _ i
      have holdc : ∀ i, Has Rk i → niOf Rc i = niOf Rk i := fun i hi => by rw [← hRc] at hIc ⊢; exact more_old hIc hI rfl hi
      have hnewc : niOf Rc c = ⟨ln.k, ln.t, ln.x, [], []⟩ := by rw [← hRc] at hIc ⊢; exact more_new hok hIc rfl hc.symm
      have hHc : Has Rc c := (hhasc c).2 (.inr rfl)
      have hHid : Has Rc id := (hhasc id).2 (.inl h.hid)
      have hidc : id ≠ c := fun e => hnoK (by rw [← e]; exact h.hid)
      have hbfk : befOf ks q.stay = 0 ∨ (befOf ks q.stay ≠ c ∧ befOf ks q.stay ∈ (niOf Rc id).kids) := by
        rw [hbf, holdc id h.hid, hkids]
        cases hq : q.stay with
        | nil => exact .inl rfl
        | cons a t =>
          have hin := hskk (kidAt ks a) (by rw [hq]; simp)
          refine .inr ⟨fun e => ?_, hin⟩
          have e : kidAt ks a = c := e
          rw [e] at hin
          exact hnoK (kid_has hI h.hid (by rw [hkids]; exact hin))
      obtain ⟨f1, f2, f3, f4, f5⟩ := eff_insert hokc hHc (by omega) hHid (by rw [holdc id h.hid]; exact hytag) hbfk (not_within hokc hHid hHc fun e => by
        rcases dsc_kid.1 e with e | ⟨b, hb, _⟩
        · exact hidc e
        · rw [hnewc] at hb; cases hb)
      have hoki := hokc.did f1
      rw [f4] at hoki
      have hFi := hFc.did hIc f1
      generalize hRi : didP Rc ⟨2, c, id, befOf ks q.stay, 0, ⟨#[]⟩, ⟨#[]⟩, ⟨#[]⟩⟩ = Ri at *
      have hnoc : ∀ i, Has Rk i → c ∉ (niOf Rk i).kids := fun i hi hcc => hnoK (kid_has hI hi hcc)
      have hflt : ∀ i, Has Rk i → (niOf Rk i).kids.filter (fun j => j != c) = (niOf Rk i).kids := fun i hi => by
        rw [List.filter_eq_self]
        intro b hb
        have : b ≠ c := fun e => by rw [e] at hb; exact hnoc i hi hb
        simpa using this
      have hni_c : niOf Ri c = ⟨ln.k, ln.t, ln.x, [], []⟩ := by
        rw [f3 c hHc, hnewc, if_neg (fun e => hidc e.symm)]
        rfl
      have hm := h.put (Ri := Ri) (c := c) hok (fun i => (f2 i).trans (hhasc i)) (fun i hi hne => by
        rw [f3 i ((hhasc i).2 (.inl hi)), if_neg hne, holdc i hi, hflt i hi]) (by
        rw [f3 id hHid, if_pos rfl, holdc id h.hid, h.ni, hbf]) (.inr ⟨hnoK, hnoR, by rw [hni_c], hp1⟩) (fun e => hnoK (kid_has hI h.hid (by rw [hkids]; exact h.inn (.inl e)))) (fun e => hnoK (kid_has hI h.hid (by rw [hkids]; exact hskk _ e))) (fun j h1 h2 h3 e => hnoK (by
          rw [← e]
          exact kid_has hI h.hid (by rw [hkids]; exact (h.pend j (by omega) h2 h3).1))) (fun e => absurd (kid_has hI h.hid (by rw [hkids]; exact e)) hnoK) (sz' := sizeTo ps k + 1) (by
          rw [f5, ← hRc, List.length_append]
          show _ + 1 ≤ _
          omega)
      have hbare : NiFine ⟨ln.k, ln.t, ln.x, [], []⟩ := by
        refine ⟨List.Pairwise.nil, fun e => ?_, fun _ => rfl⟩
        rcases hnode with hh | hh
        · exact (el_tag hh).2
        · have := (tx_tag hh).1
          rw [show ln.t.toList.isEmpty = false from e] at this
          cases this
      obtain ⟨R', r1, r2⟩ := F.go hk hm (Nat.le_refl _) hoki hFi hni_c hbare (by rw [hln]) (by rw [hln]) (fun j hj hne => by
          rcases dsc_kid.1 hj with e | ⟨b, hb, _⟩
          · exact absurd e hne
          · rw [hni_c] at hb; cases hb) (fun e => absurd hp1 e)
      refine ⟨R', _, _, _, by simp only [List.append_assoc]; rfl, ?_, r2, hst2⟩
      refine RunL.app (P := [_]) (RunL.one c1) ?_
      rw [c2, c3]
      refine RunL.app (P := [_]) (RunL.one f1) ?_
      rw [hRi, f4]
      exact r1
    · -- an old one
      rw [kidStep_move hhd hp1]
      generalize hc : kidAt ks (pr.getD k 0) = c
      have hc' : ks.getD (pr.getD k 0).toNat 0 = c := hc
      rw [hc']
      obtain ⟨e1, e2, e3⟩ := h.pend k (Nat.le_refl _) hk hp1
      rw [hc'] at e1 e2 e3
      have hckid : c ∈ (niOf Rk id).kids := by rw [hkids]; exact e1
      have hHc := kid_has hI h.hid hckid
      have hcs : c ∉ q.stay.map (kidAt ks) := fun e => by
        obtain ⟨v, hv, hv2⟩ := List.mem_map.1 e
        obtain ⟨j, h1, h2, h3⟩ := drop_mem (hst2.subset hv)
        rw [← h3] at hv2
        exact hinj c hc.symm hp1 j (by omega) (by rw [← F.plen]; exact h2) (by rw [h3]; exact hsn v hv) hv2
      have hbfk : befOf ks q.stay = 0 ∨ (befOf ks q.stay ≠ c ∧ befOf ks q.stay ∈ (niOf Rk id).kids) := by
        rw [hbf, hkids]
        cases hq : q.stay with
        | nil => exact .inl rfl
        | cons a t =>
          have hin := hskk (kidAt ks a) (by rw [hq]; simp)
          refine .inr ⟨fun e => hcs ?_, hin⟩
          have e : kidAt ks a = c := e
          rw [hq, ← e]
          simp
      obtain ⟨f1, f2, f3, f4, f5⟩ := eff_insert hok hHc (kid_root hok h.hid hckid) h.hid hytag hbfk (not_within hok h.hid hHc (dsc_not hok h.hid hckid))
      have hoki := hok.did f1
      rw [f4] at hoki
      have hFi := hF.did hI f1
      generalize hRi : didP Rk ⟨2, c, id, befOf ks q.stay, 0, ⟨#[]⟩, ⟨#[]⟩, ⟨#[]⟩⟩ = Ri at *
      have hold : ∀ i, Has Rk i → i ≠ id → niOf Ri i = niOf Rk i := fun i hi hne => by
        rw [f3 i hi, if_neg hne]
        have : (niOf Rk i).kids.filter (fun j => j != c) = (niOf Rk i).kids := by
          rw [List.filter_eq_self]
          intro b hb
          have : b ≠ c := fun e => by rw [e] at hb; exact hne (kid_one hI hi h.hid hb hckid)
          simpa using this
        rw [this]
      have hm := h.put (Ri := Ri) (c := c) hok (fun i => ⟨fun e => .inl ((f2 i).1 e), fun e => (f2 i).2 (e.elim (fun e => e) fun e => by rw [e]; exact hHc)⟩) hold (by
        rw [f3 id h.hid, if_pos rfl, h.ni, hbf]) (.inl ⟨e1, fun _ => hc'.symm⟩) e2 hcs (hinj c hc.symm hp1) (fun _ => hp1) (sz' := sizeTo ps k + 1) (by rw [f5]; omega)
      have hcid : c ≠ id := fun e => dsc_not hok h.hid hckid (by rw [e]; exact .self _)
      have hsub : ∀ p, Dsc (niOf Rk) c p → niOf Ri p = niOf Rk p := fun p hp => hold p (dsc_has hI hHc hp) fun e => by subst e; exact dsc_not hok h.hid hckid hp
      have hkey := F.key k hk hp1
      rw [hc] at hkey
      obtain ⟨R', r1, r2⟩ := F.go hk hm (Nat.le_refl _) hoki hFi (by rw [hold c hHc hcid]; exact e3 c (.self _)) (F.fine c) hkey.1 hkey.2 (fun j hj _ => by
        have hj' := hj.back hsub
        rw [hsub j hj']
        exact e3 j hj') (fun _ => rfl)
      refine ⟨R', _, _, _, by simp only [List.append_assoc]; rfl, ?_, r2, hst2⟩
      refine RunL.app (P := [_]) (RunL.one f1) ?_
      rw [hRi, f4]
      exact r1
end Go.Proofs.Ytobgcaemnpkbmaa
