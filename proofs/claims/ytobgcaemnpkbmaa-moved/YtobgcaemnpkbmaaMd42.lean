/- Io Ip Bre Ha Hz -/
import Derived.Test.YtobgcaemnpkbmaaMd41
import Derived.Test.YtobgcaemnpkbmaaMd35
import Derived.Test.YtobgcaemnpkbmaaMd03
import Derived.BigQuiet
import Derived.Test.YtobgcaemnpkbmaaMd22
namespace Go.Proofs.Ytobgcaemnpkbmaa
open Go.RowKit
theorem attrs_none {id : Int} {x : NI} {ln : Nod} (h : x.ats = atsOf ln) : attrsP id x ln = [] := by
  have hl : x.ats.length = ln.an := by rw [h, atsOf_length]
  have hg : ∀ j, j < ln.an → (ln.nm j, ln.vl j) ∈ x.ats := fun j hj => by rw [h]; exact (atsOf_mem _).2 ⟨j, hj, rfl⟩
  have hu : ∀ k, k ≤ x.ats.length → unsP id (nmOf x.ats) ln.nm ln.an k = [] := by
    intro k
    induction k with
    | zero => intro _; rfl
    | succ k ih =>
      intro hk
      rw [unsP_yes, ih (by omega)]
      rw [nameIn_iff]
      have hm : x.ats[k] ∈ atsOf ln := by rw [← h]; exact List.getElem_mem _
      obtain ⟨j, hj, e⟩ := (atsOf_mem _).1 hm
      exact ⟨j, hj, by rw [(nm_get (show k < x.ats.length by omega)).1, e]⟩
  have hs : ∀ k, k ≤ ln.an → setsP id (nmOf x.ats) (vlOf x.ats) x.ats.length ln.nm ln.vl k = [] := by
    intro k
    induction k with
    | zero => intro _; rfl
    | succ k ih =>
      intro hk
      rw [setsP_yes, ih (by omega)]
      rw [attrIn_iff]
      exact hg k (by omega)
  unfold attrsP
  rw [hu _ (Nat.le_refl _), hs _ (Nat.le_refl _)]
  rfl
theorem cntP_congr {A B : Nat → ByteArray × Int} (x : ByteArray × Int) : ∀ j, (∀ i, i < j → B i = A i) → cntP B x j = cntP A x j
  | 0, _ => rfl
  | j + 1, h => by rw [cntP, cntP, cntP_congr x j fun i hi => h i (by omega), h j (by omega)]
theorem places_self (A : Nat → ByteArray × Int) : ∀ n j, j < n → placesTo A n ⟨(A j).1, (A j).2, cntP A (A j) j⟩ = some (j : Int)
  | 0, j, h => by omega
  | n + 1, j, h => by
    rw [placesTo]
    unfold putF
    by_cases e : j = n
    · subst e; rw [if_pos rfl]
    · rw [if_neg, places_self A n j (by omega)]
      intro e2
      rw [LK.mk.injEq] at e2
      have e3 : A j = A n := Prod.ext e2.1 e2.2.1
      have := cntP_less (A := A) (x := A n) (i := j) (j := n) (by omega) e3
      have h4 := e2.2.2
      rw [e3] at h4
      omega
theorem pairs_same {A B : Nat → ByteArray × Int} {m : Nat} (h : ∀ j, j < m → B j = A j) : pairsP A m B m = (List.range m).map fun j : Nat => (j : Int) := by
  unfold pairsP
  refine List.map_congr_left fun j hj => ?_
  have hj := List.mem_range.1 hj
  unfold pairAt
  rw [h j hj, cntP_congr (A := A) (B := B) (A j) j fun i hi => h i (by omega), places_self A m j hj]
  rfl
theorem rows_id {v : Nat → Int} : ∀ n, (∀ j, j < n → v j = (j : Int)) → rowsTo v n = (List.range n).map fun i => (List.range (i + 1)).reverse
  | 0, _ => rfl
  | i + 1, hv => by
    have ih := rows_id i fun j hj => hv j (by omega)
    have hh : ∀ j, headN ((List.range (j + 1)).reverse) = j := fun j => by rw [List.range_succ, List.reverse_append]; rfl
    have hl : ((List.range i).map fun i => (List.range (i + 1)).reverse).length = i := by simp
    have he : endAt v ((List.range i).map fun i => (List.range (i + 1)).reverse) i = i := by
      refine endAt_is (by rw [hl]; exact Nat.le_refl _) (fun q hq hlt => ?_) (fun hp => by rw [hl] at hp; omega)
      rw [hl] at hq
      rw [List.getElem_map, List.getElem_range, hh, hv q (by omega), hv i (by omega)]
      omega
    rw [rowsTo, ih]
    unfold rowStep
    rw [he, if_neg (by rw [hl]; omega), List.range_succ, List.map_append]
    congr 1
    show [newC _ i i] = [(List.range (i + 1)).reverse]
    unfold newC
    rw [List.range_succ, List.reverse_append]
    cases i with
    | zero => rfl
    | succ i =>
      rw [if_neg (by omega), Nat.add_sub_cancel, List.getD_eq_getElem?_getD, List.getElem?_map, List.getElem?_range (by omega)]
      rfl
theorem stay_all (m : Nat) : stayOf ((List.range m).map fun j : Nat => (j : Int)) = (List.range m).map fun j : Nat => (j : Int) := by
  have hf : ((List.range m).map fun j : Nat => (j : Int)).filter keepB = (List.range m).map fun j : Nat => (j : Int) := by
    rw [List.filter_eq_self]
    intro v hv
    obtain ⟨j, _, rfl⟩ := List.mem_map.1 hv
    have : ((j : Int) == -1) = false := beq_eq_false_iff_ne.2 (by omega)
    unfold keepB noneB
    rw [this]
    rfl
  have hv : ∀ j, j < m → ((List.range m).map fun j : Nat => (j : Int)).getD j 0 = (j : Int) := fun j hj => by
    rw [List.getD_eq_getElem?_getD, List.getElem?_map, List.getElem?_range hj]
    rfl
  unfold stayOf
  rw [hf]
  have hl : ((List.range m).map fun j : Nat => (j : Int)).length = m := by simp
  rw [hl]
  unfold rowP
  rw [rows_id m hv]
  cases m with
  | zero => rfl
  | succ m =>
    have e : ((List.range (m + 1)).map (fun i => (List.range (i + 1)).reverse)).getLastD [] = (List.range (m + 1)).reverse := by
      rw [List.range_succ, List.map_append]
      simp [List.range_succ]
    rw [e, List.map_reverse, List.reverse_reverse]
    exact List.map_congr_left fun j hj => hv j (List.mem_range.1 hj)
theorem kids_none_done {br : Br} {T : Int → NI} {L : Nat → Nod} {id : Int} {ks : List Int} {s : Nat} {ps : List (Nat × Nat)} {last : Int} (hbr : ∀ k, k < ps.length → br (ks.getD k 0) (T (ks.getD k 0)) (s + (ps.getD k (0, 0)).1) ((ps.getD k (0, 0)).2 - (ps.getD k (0, 0)).1) last = ([], last)) :
    ∀ k, k ≤ ps.length → kidsDone br T L id ks s ps ((List.range ps.length).map fun j : Nat => (j : Int)) ⟨[], (List.range ps.length).map fun j : Nat => (j : Int), last⟩ k = ⟨[], ((List.range ps.length).map fun j : Nat => (j : Int)).drop k, last⟩
  | 0, _ => rfl
  | k + 1, hk => by
    have hl : k < ((List.range ps.length).map fun j : Nat => (j : Int)).length := by simp; omega
    have hg : ((List.range ps.length).map fun j : Nat => (j : Int)).getD k 0 = (k : Int) := by
      rw [List.getD_eq_getElem?_getD, List.getElem?_map, List.getElem?_range (by omega)]
      rfl
    rw [kidsDone, kids_none_done hbr k (by omega), kidStep_stay (by show List.head? (List.drop k _) = _; rw [drop_cons hl]; rfl), hg, Int.toNat_natCast]
    simp only [hbr k (by omega)]
    rw [drop_cons hl]
    rfl
theorem rems_none {I : Nat → Int} {m : Nat} : ∀ k, k ≤ m → remsP I ((List.range m).map fun j : Nat => (j : Int)) k = []
  | 0, _ => rfl
  | k + 1, hk => by
    rw [remsP_yes, rems_none k (by omega)]
    rw [List.contains_iff_mem]
    exact List.mem_map.2 ⟨k, List.mem_range.2 (by omega), rfl⟩
theorem bring_none {R : List RN} {L : Nat → Nod} {last : Int} : ∀ (f : Nat) (id : Int) (s n : Nat), TreeAt R L f id s n → bringP (niOf R) L f id (niOf R id) s n last = ([], last)
  | 0, _, _, _, h => h.elim
  | f + 1, id, s, n, ⟨h1, h2, h3, h4, h5, h6, h7⟩ => by
    have ht : textP id (niOf R id) (L s) = [] := textP_yes (by rw [h4]; simp)
    have hb : bringKidsP (bringP (niOf R) L f) (niOf R) L id (niOf R id) s n last = ([], last) := by
      unfold bringKidsP
      have hp : pairsOf (niOf R) L (niOf R id).kids s (partsOf L s n) = (List.range (partsOf L s n).length).map fun j : Nat => (j : Int) := by
        unfold pairsOf
        rw [h6]
        refine pairs_same fun j hj => ?_
        have := h7 j hj
        match f, this with
        | f + 1, ⟨_, g2, g3, _⟩ => rw [g2, g3]
      simp only [hp, stay_all]
      rw [h6, rems_none _ (Nat.le_refl _), kids_none_done (fun k hk => bring_none f _ _ _ (h7 k hk)) _ (Nat.le_refl _)]
    simp only [bringP, ht, attrs_none h5, hb]
    rfl
end Go.Proofs.Ytobgcaemnpkbmaa
namespace Go.Proofs.Ytobgcaemnpkbmaa
open Go.RowKit
theorem piece_of {L : Nat → Nod} {n : Nat} (hn : 0 < n) (h : ∀ i, i < n → mayB L i = true) : PieceOk L 0 n := by
  refine ⟨hn, fun i hi1 hi2 => ?_, fun i hi => ?_, fun i hi => ?_, fun i hi hlt => ?_⟩
  · rw [Nat.zero_add]
    have h0 := mayB_zero (h 0 hn)
    have := (may_deep hi1 (h i hi2)).1
    omega
  · have := (may_deep (by omega) (h (i + 1) hi)).2.2
    rw [Nat.add_sub_cancel] at this
    simpa using this
  · rw [Nat.zero_add]
    exact may_node (h i hi)
  · rw [Nat.zero_add] at hlt ⊢
    have hg : goBack L (i + 1) (i + 1) = true := by
      have := h (i + 1) hi
      unfold mayB at this
      rw [if_neg (by omega)] at this
      simp only [Bool.and_eq_true] at this
      exact this.2
    rw [goBack_up hlt] at hg
    rcases may_node (h i (by omega)) with e | e
    · exact e
    · rw [(tx_tag e).1] at hg
      cases hg
theorem tile_mem : ∀ (l : List (Nat × Nat)) (a b i : Nat), Tile l a b → a ≤ i → i < b → ∃ p, p ∈ l ∧ p.1 ≤ i ∧ i < p.2
  | [], a, b, i, h, h1, h2 => by
    have e : a = b := h
    omega
  | p :: l, a, b, i, ⟨g1, g2, g3⟩, h1, h2 => by
    by_cases e : i < p.2
    · exact ⟨p, List.mem_cons_self .., by omega, e⟩
    · obtain ⟨q, q1, q2⟩ := tile_mem l p.2 b i g3 (by omega) h2
      exact ⟨q, List.mem_cons_of_mem _ q1, q2⟩
theorem tile_low : ∀ (l : List (Nat × Nat)) (a b : Nat), Tile l a b → ∀ q, q ∈ l → a ≤ q.1
  | [], _, _, _, _, h => by simp at h
  | p :: l, a, b, ⟨g1, g2, g3⟩, q, h => by
    rcases List.mem_cons.1 h with e | e
    · rw [e]; omega
    · have := tile_low l p.2 b g3 q e
      omega
theorem tile_rise : ∀ (l : List (Nat × Nat)) (a b : Nat), Tile l a b → (l.map (·.1)).Pairwise (fun x y => x < y)
  | [], _, _, _ => List.Pairwise.nil
  | p :: l, a, b, ⟨g1, g2, g3⟩ => by
    rw [List.map_cons, List.pairwise_cons]
    refine ⟨fun x hx => ?_, tile_rise l p.2 b g3⟩
    obtain ⟨q, hq, rfl⟩ := List.mem_map.1 hx
    have := tile_low l p.2 b g3 q hq
    omega
theorem start_iff {L : Nat → Nod} {s n : Nat} (h : PieceOk L s n) (x : Nat) : x ∈ (partsOf L s n).map (·.1) ↔ 0 < x ∧ x < n ∧ (L (s + x)).d = (L s).d + 1 := by
  have hD1 : 2 ≤ n → (L (s + 1)).d = (L (s + 0)).d + 1 := fun hn => by
    have e1 := h.deep 1 (by omega) (by omega)
    have e2 := h.step 0 (by omega)
    simp only [Nat.add_zero] at e2 ⊢
    omega
  constructor
  · intro hx
    obtain ⟨p, hp, rfl⟩ := List.mem_map.1 hx
    obtain ⟨h1, h2, h3⟩ := partsP_span h.pos hp
    have := (partsP_deep h.pos hD1 hp).1
    rw [Nat.add_zero] at this
    exact ⟨by omega, by omega, this⟩
  · rintro ⟨h1, h2, h3⟩
    obtain ⟨p, p1, p2, p3⟩ := tile_mem _ 1 n x (partsP_tile (fun i => (L (s + i)).d) h.pos) h1 h2
    by_cases e : x = p.1
    · rw [e]; exact List.mem_map.2 ⟨p, p1, rfl⟩
    · have := (partsP_deep h.pos hD1 p1).2 x (by omega) p3
      rw [Nat.add_zero] at this
      exact absurd h3 this
def Whole' (L : Nat → Nod) (N s n : Nat) : Prop := s + n ≤ N ∧ (s + n < N → (L (s + n)).d ≤ (L s).d)
theorem tile_next : ∀ (l : List (Nat × Nat)) (a b : Nat), Tile l a b → ∀ q, q ∈ l → q.2 = b ∨ ∃ r, r ∈ l ∧ r.1 = q.2
  | [], _, _, _, _, h => by simp at h
  | p :: l, a, b, ⟨g1, g2, g3⟩, q, h => by
    rcases List.mem_cons.1 h with e | e
    · subst e
      cases l with
      | nil =>
        have e : q.2 = b := g3
        exact .inl e
      | cons r l => exact .inr ⟨r, by simp, g3.1⟩
    · rcases tile_next l p.2 b g3 q e with e | ⟨r, r1, r2⟩
      · exact .inl e
      · exact .inr ⟨r, List.mem_cons_of_mem _ r1, r2⟩
theorem Whole'.part {L : Nat → Nod} {N s n : Nat} (h : PieceOk L s n) (hw : Whole' L N s n) {a : Nat × Nat} (ha : a ∈ partsOf L s n) : Whole' L N (s + a.1) (a.2 - a.1) := by
  obtain ⟨h1, h2, h3⟩ := partsP_span h.pos ha
  have hs := (start_iff h a.1).1 (List.mem_map.2 ⟨a, ha, rfl⟩)
  refine ⟨by have := hw.1; omega, fun hlt => ?_⟩
  rw [show s + a.1 + (a.2 - a.1) = s + a.2 by omega] at hlt ⊢
  rcases tile_next _ 1 n (partsP_tile (fun i => (L (s + i)).d) h.pos) a ha with e | ⟨r, r1, r2⟩
  · rw [e] at hlt ⊢
    have := hw.2 hlt
    omega
  · have := (start_iff h r.1).1 (List.mem_map.2 ⟨r, r1, rfl⟩)
    rw [r2] at this
    omega
theorem made_kids {L : Nat → Nod} {N s n : Nat} (hmay : ∀ i, i < N → mayB L i = true) (h : PieceOk L s n) (hw : Whole' L N s n) : kidIds (madeR L N) ((s : Int) + 1) = (partsOf L s n).map fun a => ((s + a.1 : Nat) : Int) + 1 := by
  have hpos := h.pos
  have hle := hw.1
  have e1 : kidIds (madeR L N) ((s : Int) + 1) = ((List.range N).filter fun i => (parP L i == (s : Int) + 1)).map fun i => ((i : Nat) : Int) + 1 := by
    unfold kidIds madeR
    rw [List.filter_map, List.map_map]
    rfl
  have e2 : ((partsOf L s n).map fun a => ((s + a.1 : Nat) : Int) + 1) = (((partsOf L s n).map (·.1)).map fun x => s + x).map fun i => ((i : Nat) : Int) + 1 := by
    rw [List.map_map, List.map_map]
    rfl
  rw [e1, e2]
  congr 1
  have key : ∀ i, i ∈ ((List.range N).filter fun i => (parP L i == (s : Int) + 1)) ↔ i ∈ ((partsOf L s n).map (·.1)).map fun x => s + x := fun i => by
    rw [List.mem_filter, List.mem_range, List.mem_map]
    constructor
    · rintro ⟨hi, hp⟩
      have hp : parP L i = (s : Int) + 1 := by simpa using hp
      have h0 : i ≠ 0 := fun e => by subst e; unfold parP at hp; rw [if_pos rfl] at hp; omega
      obtain ⟨p, hpar⟩ := par_of (by omega) (fun j hj => hmay j (by omega)) (may_deep (by omega) (hmay i hi)).1 (may_deep (by omega) (hmay i hi)).2.2
      have ep : parP L i = (p : Int) + 1 := by unfold parP; rw [if_neg h0, hpar.parent]
      have e3 : p = s := by omega
      subst e3
      have hlt := hpar.lt
      have hup := hpar.up
      refine ⟨i - p, (start_iff h _).2 ⟨by omega, ?_, ?_⟩, by omega⟩
      · by_cases e4 : i < p + n
        · omega
        · exfalso
          have e5 := hw.2 (by omega)
          by_cases e6 : i = p + n
          · rw [← e6] at e5; omega
          · have := hpar.deep (p + n) (by omega) (by omega)
            omega
      · rw [show p + (i - p) = i by omega]
        omega
    · rintro ⟨x, hx, rfl⟩
      obtain ⟨x1, x2, x3⟩ := (start_iff h x).1 hx
      refine ⟨by omega, ?_⟩
      have hpar : Par L (s + x) s := ⟨by omega, by omega, fun j hj1 hj2 => by
        have := h.deep (j - s) (by omega) (by omega)
        rw [show s + (j - s) = j by omega] at this
        omega⟩
      have : parP L (s + x) = (s : Int) + 1 := by unfold parP; rw [if_neg (by omega), hpar.parent]
      simpa using this
  have r1 : ((List.range N).filter fun i => (parP L i == (s : Int) + 1)).Pairwise (fun a b => a < b) := List.pairwise_lt_range.filter _
  have r2 : (((partsOf L s n).map (·.1)).map fun x => s + x).Pairwise (fun a b => a < b) := by
    rw [List.pairwise_map]
    exact (tile_rise _ 1 n (partsP_tile (fun i => (L (s + i)).d) h.pos)).imp fun h => by omega
  have s1 := sorted_sub (lt := fun a b : Nat => a < b) (fun a => Nat.lt_irrefl a) (fun a b c => Nat.lt_trans) _ _ r1 r2 fun a ha => (key a).1 ha
  have s2 := sorted_sub (lt := fun a b : Nat => a < b) (fun a => Nat.lt_irrefl a) (fun a b c => Nat.lt_trans) _ _ r2 r1 fun a ha => (key a).2 ha
  exact s1.eq_of_length_le s2.length_le
theorem made_tree {L : Nat → Nod} {N : Nat} (hmay : ∀ i, i < N → mayB L i = true) : ∀ (f s n : Nat), n ≤ f → PieceOk L s n → Whole' L N s n → TreeAt (madeR L N) L f ((s : Int) + 1) s n
  | 0, s, n, hf, h, _ => by have := h.pos; omega
  | f + 1, s, n, hf, h, hw => by
    have hpos := h.pos
    have hle := hw.1
    have hI := madeR_ids L N
    have hs : s < (madeR L N).length := by rw [madeR_length]; omega
    have hni := ni_get hI hs
    rw [madeR_get] at hni
    have eid : (rnOf L s).id = (s : Int) + 1 := rfl
    rw [eid, made_kids hmay h hw] at hni
    unfold TreeAt
    rw [hni]
    refine ⟨⟨(madeR L N)[s], List.getElem_mem hs, by rw [madeR_get]; rfl⟩, rfl, rfl, rfl, rfl, by simp, fun k hk => ?_⟩
    have hm : (partsOf L s n)[k] ∈ partsOf L s n := List.getElem_mem hk
    have eg : (partsOf L s n).getD k (0, 0) = (partsOf L s n)[k] := by rw [List.getD_eq_getElem?_getD, List.getElem?_eq_getElem hk]; rfl
    have ek : ((partsOf L s n).map fun a => ((s + a.1 : Nat) : Int) + 1).getD k 0 = ((s + (partsOf L s n)[k].1 : Nat) : Int) + 1 := by
      rw [List.getD_eq_getElem?_getD, List.getElem?_map, List.getElem?_eq_getElem hk]
      rfl
    simp only [ek, eg]
    obtain ⟨g1, g2, _⟩ := h.part hm
    exact made_tree hmay f _ _ (by omega) g1 (Whole'.part h hw hm)
end Go.Proofs.Ytobgcaemnpkbmaa
namespace Go.Proofs.Ytobgcaemnpkbmaa
open Go.RowKit
theorem kidIds_bare (R : List RN) (q : Int) : kidIds (bareL R) q = kidIds R q := by
  unfold kidIds bareL
  rw [List.filter_map, List.map_map]
  rfl
theorem blkOf_bare (nb : Int → Nat) (R : List RN) (i : Int) : blkOf nb (bareL R) i = blkOf nb R i := by
  unfold blkOf bareL
  rw [List.any_map]
  rfl
theorem PNode.bare {ρ : Roles} {nb : Int → Nat} {w : World} {R : List RN} {n : RN} {av kv : Value} : PNode ρ nb w (bareL R) n.bare av kv ↔ PNode ρ nb w R n av kv := by
  constructor
  · rintro ⟨h1, h2, h3, h4, h5, h6, h7, h8, h9, h10, h11⟩
    exact ⟨h1, h2, h3, h4, by have h5 := h5; rw [kidIds_bare] at h5; exact h5, h6, h7, h8, h9, h10, h11⟩
  · rintro ⟨h1, h2, h3, h4, h5, h6, h7, h8, h9, h10, h11⟩
    exact ⟨h1, h2, h3, h4, by rw [kidIds_bare]; exact h5, h6, h7, h8, h9, h10, h11⟩
theorem Dom.bare {ρ : Roles} {nb : Int → Nat} {mb : Nat} {rt : Option Nat} {w : World} {q : Nat} {R : List RN} {last : Int} : Dom ρ nb mb rt w q (bareL R) last ↔ Dom ρ nb mb rt w q R last := by
  have hb : blkOf nb (bareL R) = blkOf nb R := funext (blkOf_bare nb R)
  constructor
  · rintro ⟨h1, h2, h3, h4, h5, h6, h7⟩
    rw [hb, bareL_length] at h4
    rw [bareL_length] at h7
    refine ⟨h1, h2, h3, h4, fun n hn => ?_, h6, h7⟩
    obtain ⟨av, kv, hp⟩ := h5 n.bare (bare_mem.2 ⟨n, hn, rfl⟩)
    exact ⟨av, kv, PNode.bare.1 hp⟩
  · rintro ⟨h1, h2, h3, h4, h5, h6, h7⟩
    refine ⟨h1, h2, h3, by rw [hb, bareL_length]; exact h4, fun n hn => ?_, h6, by rw [bareL_length]; exact h7⟩
    obtain ⟨m, hm, rfl⟩ := bare_mem.1 hn
    obtain ⟨av, kv, hp⟩ := h5 m hm
    exact ⟨av, kv, PNode.bare.2 hp⟩
theorem Fine.bare {R : List RN} : Fine (bareL R) ↔ Fine R := by
  constructor
  · intro h n hn
    exact h n.bare (bare_mem.2 ⟨n, hn, rfl⟩)
  · intro h n hn
    obtain ⟨m, hm, rfl⟩ := bare_mem.1 hn
    exact h m hm
end Go.Proofs.Ytobgcaemnpkbmaa
namespace Go.Proofs.Ytobgcaemnpkbmaa
open Go.RowKit
set_option maxRecDepth 100000 in
set_option maxHeartbeats 1600000 in
theorem keepSame_any (a1 a2 : Option Addr) (n c1 c2 : Nat) (L M : Nat → Nod) (w : World) (hn : n ≤ maxLen) (h1 : ListAt w a1 n L) (h2 : ListAt w a2 n M)
    (hs : ∀ i, i < n → (L i).d = (M i).d ∧ (L i).t = (M i).t ∧ (L i).k = (M i).k ∧ (L i).x = (M i).x ∧ (L i).an = (M i).an ∧ ∀ j, j < (M i).an → (L i).nm j = (M i).nm j ∧ (L i).vl j = (M i).vl j) :
    Calls Try.prog 17 #[.slice a1 n c1, .slice a2 n c2] w fun e w' => e = .returned (.bool true) ∧ Below w.heap.size w w' := by
  unfold maxLen at hn
  have H1 := hide h1
  have H2 := hide h2
  have HS := hide hs
  clear h1 h2 hs
  go_enter Try.func17, Try.ntmps17
  go_wp2_with fail
  go_loopw [5, 6] (fun i _ wr => ∃ k : Nat, k ≤ n ∧ i = .int .i64 k ∧ Below w.heap.size w wr) (fun i _ _ => n - (intOf i).toNat)
  case atStart => exact ⟨0, Nat.zero_le _, rfl, Below.refl _ _⟩
  case round =>
    obtain ⟨k, hk, rfl, hbel⟩ := hrel
    by_cases hlt : k < n
    · obtain ⟨b1, o1, rfl, hL⟩ := H1.out (by omega)
      obtain ⟨b2, o2, rfl, hM⟩ := H2.out (by omega)
      have l1 := hL.lt
      have l2 := hM.lt
      have A := hL.node k hlt
      have B := hM.node k hlt
      obtain ⟨u0, u1, u2, u3, u4, u5⟩ := HS.out k hlt
      have f0 := (hbel.cell (p := ⟨b1, o1 + k * 5, none⟩) l1).trans A.c0
      have f1 := (hbel.cell (p := ⟨b1, o1 + k * 5 + 1, none⟩) l1).trans A.c1
      have f2 := (hbel.cell (p := ⟨b1, o1 + k * 5 + 2, none⟩) l1).trans A.c2
      have f3 := (hbel.cell (p := ⟨b1, o1 + k * 5 + 3, none⟩) l1).trans A.c3
      have f4 := (hbel.cell (p := ⟨b1, o1 + k * 5 + 4, none⟩) l1).trans A.c4
      have g0 := (hbel.cell (p := ⟨b2, o2 + k * 5, none⟩) l2).trans B.c0
      have g1 := (hbel.cell (p := ⟨b2, o2 + k * 5 + 1, none⟩) l2).trans B.c1
      have g2 := (hbel.cell (p := ⟨b2, o2 + k * 5 + 2, none⟩) l2).trans B.c2
      have g3 := (hbel.cell (p := ⟨b2, o2 + k * 5 + 3, none⟩) l2).trans B.c3
      have g4 := (hbel.cell (p := ⟨b2, o2 + k * 5 + 4, none⟩) l2).trans B.c4
      have HA := hide (A.ok.at'.below hbel)
      have HB := hide (B.ok.at'.below hbel)
      have hAn := A.ok.an
      rw [u0] at f0
      rw [u1] at f1
      rw [u2] at f2
      rw [u4] at f3 HA hAn
      rw [u3] at f4
      have HE := hide u5
      clear u0 u1 u2 u3 u4 u5 A B hL hM H1 H2
      generalize (L k).ao = ao1 at *
      generalize (L k).ac = ac1 at *
      generalize (L k).nm = nm1 at *
      generalize (L k).vl = vl1 at *
      generalize M k = m at *
      unfold maxLen at hAn
      have i1 : (0 : Int) ≤ (k : Int) := by omega
      have i2 : (k : Int) < (n : Int) := by omega
      have hsz := hbel.size
      have HBel := hide hbel
      have j1 : b1 < wr.heap.size := by omega
      have j2 : b2 < wr.heap.size := by omega
      clear hbel
      go_wp2_with fail
      simp only [List.append]
      go_big_quiet (fail)
      go_wp2_with fail
      have hb0 : Below wr.heap.size wr (wr.drewN nq) := drewN_of (.refl _ _) nq
      generalize wr.drewN nq = w1 at hb0 ⊢
      go_loopw [6] (fun i w2 => ∃ j : Nat, j ≤ m.an ∧ i = .int .i64 j ∧ Below wr.heap.size wr w2) (fun i _ => m.an - (intOf i).toNat)
      case atStart => exact ⟨0, Nat.zero_le _, rfl, hb0⟩
      case round =>
        obtain ⟨j, hj, rfl, hbi⟩ := hrel
        have f3' := (hbi.cell (p := ⟨b1, o1 + k * 5 + 3, none⟩) j1).trans f3
        have g3' := (hbi.cell (p := ⟨b2, o2 + k * 5 + 3, none⟩) j2).trans g3
        by_cases hlj : j < m.an
        · obtain ⟨e1, e2⟩ := HE.out j hlj
          obtain ⟨d1, p1, rfl, hd1, c0, c1', _, _⟩ := HA.out j hlj
          obtain ⟨d2, p2, hao, hd2, c2, c3, _, _⟩ := HB.out j hlj
          rw [hao] at g3'
          rw [e1] at c0
          rw [e2] at c1'
          have x0 := (hbi.cell (p := ⟨d1, p1 + j * 2, none⟩) hd1).trans c0
          have x1 := (hbi.cell (p := ⟨d1, p1 + j * 2 + 1, none⟩) hd1).trans c1'
          have y0 := (hbi.cell (p := ⟨d2, p2 + j * 2, none⟩) hd2).trans c2
          have y1 := (hbi.cell (p := ⟨d2, p2 + j * 2 + 1, none⟩) hd2).trans c3
          clear c0 c1' c2 c3 f0 f1 f2 f3 f4 g0 g1 g2 g3 g4 e1 e2 hao
          generalize m.nm j = z0 at *
          generalize m.vl j = z1 at *
          have i3 : (0 : Int) ≤ (j : Int) := by omega
          have i4 : (j : Int) < (m.an : Int) := by omega
          go_wp2_with fail
          go_big_quiet (fail)
          go_wp2_with fail
          go_roundw
          case rel => exact ⟨j + 1, by omega, by go_num, drewN_of hbi _⟩
          case measure => simp [intOf]; omega
        · go_wp2_with fail
          go_roundw
          case rel => exact ⟨k + 1, by omega, by go_num, HBel.out.trans (hbi.mono hsz)⟩
          case measure => simp [intOf]; omega
    · go_wp2_with fail
      go_ret
      exact ⟨rfl, hbel⟩
end Go.Proofs.Ytobgcaemnpkbmaa
namespace Go.Proofs.Ytobgcaemnpkbmaa
open Go.RowKit
set_option maxHeartbeats 2000000 in
set_option maxRecDepth 100000 in
theorem apply_big (ρ : Roles) (nb : Int → Nat) (mb : Nat) (w : World) (q : Nat) (R : List RN) (last : Int) (h : Dom ρ nb mb (some (nb 1)) w q R last) (hok : DocOk R last) (hF : Fine R) (ao : Option Addr) (n c : Nat) (X : Nat → Pat) (hl : last + n ≤ 4611686018427387904) (hn : n ≤ 2199023255552) (hX : PListAt w ao n X) (hfree : 0 < n → ∀ a, ao = some a → ρ a.block = none) (hx : ∀ i, i < n → (X i).Ok ∧ (X i).Ints) :
    Calls Try.prog 28 #[.pointer (some ⟨q, 0, none⟩), .slice ao n c] w fun e w' => ∃ k, k ≤ n ∧ RunsTo R last X k ∧ (∃ nb' ρ', Wrote ρ ρ' w w' ∧ Dom ρ' nb' mb (some (nb' 1)) w' q (runP R last X k).1 (runP R last X k).2) ∧ ((k = n ∧ e = .returned (.tuple #[.int .i64 0, .int .i64 0])) ∨ (k < n ∧ canP (runP R last X k).1 (runP R last X k).2 (X k) = false ∧ e = .returned (.tuple #[.int .i64 4, .int .i64 k]))) := by
  have HLo : Hid (∀ b o, 0 < n → ao = some ⟨b, o, none⟩ → ρ b = none) := hide fun b o h0 e => hfree h0 _ e
  have HX := hide hX
  have HOk := hide hx
  have HR : Hid (∀ k, RunsTo R last X k → DocOk (runP R last X k).1 (runP R last X k).2 ∧ Fine (runP R last X k).1 ∧ (runP R last X k).2 ≤ last + k) := hide fun k hr => hr.ok hok hF
  have H0 := hide h
  clear hfree hX hx hok hF h
  go_enter Try.func28, Try.ntmps28
  go_wp2_with fail
  go_loopw [6, 7, 10] (fun _ _ i wr => ∃ k : Nat, k ≤ n ∧ i = .int .i64 k ∧ Hid (RunsTo R last X k) ∧ Hid (∃ nb' ρ', Wrote ρ ρ' w wr ∧ Dom ρ' nb' mb (some (nb' 1)) wr q (runP R last X k).1 (runP R last X k).2)) (fun _ _ i _ => n - (intOf i).toNat)
  case atStart => exact ⟨0, Nat.zero_le _, rfl, hide (RunsTo.zero _ _ _), hide ⟨nb, ρ, ⟨Touch.of_below (Below.refl _ _), fun _ _ => rfl, fun _ h => .inl h⟩, unhide H0⟩⟩
  case round =>
    obtain ⟨k, hk, rfl, hrun, hdom⟩ := hrel
    by_cases hlt : k < n
    · obtain ⟨nb1, ρ1, hw1, hd1⟩ := hdom.out
      obtain ⟨b, o, hao, hpat⟩ := HX.out (by omega)
      have hbl := hpat.lt
      have hρb := HLo.out b o (by omega) hao
      subst hao
      obtain ⟨hok1, hF1, hl1⟩ := HR.out k hrun.out
      obtain ⟨hxo, hxi⟩ := HOk.out k hlt
      have hcell : ∀ r, r < 8 → wr.cell? ⟨b, o + (k * 8 + r), none⟩ = some (patCell (X k) r) := fun r hr => by
        rw [World.cell?_of_block (hw1.1.block b hbl (by rw [hρb]; simp)), hpat.cell _ (by omega), patsCell_at _ _ _ hr]
      have hki : (k : Int) < (n : Int) := by omega
      have HD1 := hide hd1
      have HW1 := hide hw1
      have HDo : Hid (∀ w8, Below wr.heap.size wr w8 → Calls Try.prog 37 #[.pointer (some ⟨q, 0, none⟩), (X k).val] w8 fun e w' => e = .returned (.bool (canP (runP R last X k).1 (runP R last X k).2 (X k))) ∧ PPost ρ1 nb1 mb wr q (runP R last X k).1 (runP R last X k).2 (X k) (canP (runP R last X k).1 (runP R last X k).2 (X k)) w') := hide fun w8 hb8 => by
        refine (pdo_any ρ1 nb1 mb w8 q _ _ (hd1.below hb8) hok1 hF1 (by omega) (X k) hxo hxi).mono ?_
        rintro e w' ⟨b, rfl, hp⟩
        have e1 := hp.1
        subst e1
        exact ⟨rfl, hp.after hb8⟩
      have HNext : Hid (canP (runP R last X k).1 (runP R last X k).2 (X k) = true → ∀ w', PPost ρ1 nb1 mb wr q (runP R last X k).1 (runP R last X k).2 (X k) true w' → ∃ nb' ρ', Wrote ρ ρ' w w' ∧ Dom ρ' nb' mb (some (nb' 1)) w' q (runP R last X (k + 1)).1 (runP R last X (k + 1)).2) := hide fun _ w' hp => by
        obtain ⟨_, nb', ρ', h2, _, h4⟩ := hp
        rw [if_pos rfl, if_pos rfl] at h4
        exact ⟨nb', ρ', hw1.trans h2, h4⟩
      have HStop : Hid (∀ w', PPost ρ1 nb1 mb wr q (runP R last X k).1 (runP R last X k).2 (X k) false w' → ∃ nb' ρ', Wrote ρ ρ' w w' ∧ Dom ρ' nb' mb (some (nb' 1)) w' q (runP R last X k).1 (runP R last X k).2) := hide fun w' hp => by
        obtain ⟨_, nb', ρ', h2, _, h4⟩ := hp
        rw [if_neg (by simp), if_neg (by simp)] at h4
        exact ⟨nb', ρ', hw1.trans h2, h4⟩
      have HCan : Hid (∀ v, canP (runP R last X k).1 (runP R last X k).2 (X k) = v → canP (runP R last X k).1 (runP R last X k).2 (X k) = v) := hide fun _ e => e
      clear hd1 hw1 hok1 hF1 hxo hxi hpat hρb
      generalize hC : canP (runP R last X k).1 (runP R last X k).2 (X k) = C at HDo HNext HCan
      have HC := hide hC
      clear hC HCan
      generalize hPP : PPost ρ1 nb1 mb wr q (runP R last X k).1 (runP R last X k).2 (X k) = PP at *
      clear hPP
      obtain ⟨kd, id, pa, bf, ky, tg, nm, tx, hXk⟩ : ∃ kd id pa bf ky tg nm tx, X k = ⟨kd, id, pa, bf, ky, tg, nm, tx⟩ := ⟨_, _, _, _, _, _, _, _, rfl⟩
      rw [hXk] at hcell
      have HDo2 : Hid (∀ w8, Below wr.heap.size wr w8 → Calls Try.prog 37 #[.pointer (some ⟨q, 0, none⟩), .agg #[.int .i64 kd, .int .i64 id, .int .i64 pa, .int .i64 bf, .int .i64 ky, .string tg, .string nm, .string tx]] w8 fun e w' => e = .returned (.bool C) ∧ PP C w') := by rw [hXk] at HDo; exact HDo
      clear hXk HDo
      have c0 : wr.cell? ⟨b, o + k * 8, none⟩ = some (.int .i64 kd) := by have := hcell 0 (by decide); simpa [patCell, Nat.add_assoc] using this
      have c1 : wr.cell? ⟨b, o + k * 8 + 1, none⟩ = some (.int .i64 id) := by have := hcell 1 (by decide); simpa [patCell, Nat.add_assoc] using this
      have c2 : wr.cell? ⟨b, o + k * 8 + 2, none⟩ = some (.int .i64 pa) := by have := hcell 2 (by decide); simpa [patCell, Nat.add_assoc] using this
      have c3 : wr.cell? ⟨b, o + k * 8 + 3, none⟩ = some (.int .i64 bf) := by have := hcell 3 (by decide); simpa [patCell, Nat.add_assoc] using this
      have c4 : wr.cell? ⟨b, o + k * 8 + 4, none⟩ = some (.int .i64 ky) := by have := hcell 4 (by decide); simpa [patCell, Nat.add_assoc] using this
      have c5 : wr.cell? ⟨b, o + k * 8 + 5, none⟩ = some (.string tg) := by have := hcell 5 (by decide); simpa [patCell, Nat.add_assoc] using this
      have c6 : wr.cell? ⟨b, o + k * 8 + 6, none⟩ = some (.string nm) := by have := hcell 6 (by decide); simpa [patCell, Nat.add_assoc] using this
      have c7 : wr.cell? ⟨b, o + k * 8 + 7, none⟩ = some (.string tx) := by have := hcell 7 (by decide); simpa [patCell, Nat.add_assoc] using this
      clear hcell
      go_wp2_with fail
      refine (HDo2.out _ ((Below.refl _ _).alloc (Nat.le_refl _) _)).mono ?_
      rintro e w9 ⟨rfl, hp⟩
      have HP := hide hp
      clear hp
      cases C with
      | true =>
        have HN := hide (HNext.out rfl w9 HP.out)
        have HR1 := hide (hrun.out.succ HC.out)
        go_wp2_with fail
        go_roundw
        case rel => exact ⟨k + 1, by omega, by go_num, HR1, HN⟩
        case measure => simp [intOf]; omega
      | false =>
        have HS := hide (HStop.out w9 HP.out)
        go_wp2_with fail
        refine bodyPost_ret (results_tmp2 rfl _ _ _) rfl ?_
        exact ⟨k, hk, hrun.out, HS.out, .inr ⟨hlt, HC.out, rfl⟩⟩
    · have hkn : k = n := by omega
      subst hkn
      go_wp2_with fail
      refine bodyPost_ret (results_tmp2 rfl _ _ _) rfl ?_
      exact ⟨k, hk, hrun.out, hdom.out, .inl ⟨rfl, rfl⟩⟩
end Go.Proofs.Ytobgcaemnpkbmaa
