/- If Ig Ih Ii -/
import Derived.Test.YtobgcaemnpkbmaaKc41
namespace Go.Proofs.Ytobgcaemnpkbmaa
open Go.RowKit
def Tile : List (Nat × Nat) → Nat → Nat → Prop
  | [], a, b => a = b
  | p :: l, a, b => p.1 = a ∧ p.1 < p.2 ∧ Tile l p.2 b
theorem Tile.snoc : ∀ {l : List (Nat × Nat)} {a b c : Nat}, Tile l a b → b < c → Tile (l ++ [(b, c)]) a c
  | [], a, b, c, h, hb => by
    have e : a = b := h
    subst e
    exact ⟨rfl, hb, rfl⟩
  | p :: l, a, b, c, ⟨h1, h2, h3⟩, hb => ⟨h1, h2, Tile.snoc h3 hb⟩
theorem partsTo_tile (D : Nat → Int) (n : Nat) : ∀ k, Tile (partsTo D n k).1 1 (partsTo D n k).2
  | 0 => rfl
  | k + 1 => by
    have ih := partsTo_tile D n k
    have hs := partsTo_start D n k
    cases h : cutB D n (k + 2) with
    | true => rw [partsTo_yes h]; exact ih.snoc (by omega)
    | false => rw [partsTo_no h]; exact ih
theorem partsP_tile (D : Nat → Int) {n : Nat} (hn : 1 ≤ n) : Tile (partsP D n) 1 n := by
  have h := partsTo_tile D n (n - 1)
  unfold partsP
  have e : (partsTo D n (n - 1)).2 = n := by
    match n, hn with
    | 1, _ => rfl
    | k + 2, _ =>
      have hc : cutB D (k + 2) (k + 2) = true := by unfold cutB; simp
      show (partsTo D (k + 2) (k + 1)).2 = k + 2
      rw [partsTo_yes hc]
  rw [e] at h
  exact h
theorem partsTo_deep (D : Nat → Int) (n : Nat) (h1 : 2 ≤ n → D 1 = D 0 + 1) : ∀ k, k + 1 ≤ n → (∀ p, p ∈ (partsTo D n k).1 → D p.1 = D 0 + 1 ∧ ∀ i, p.1 < i → i < p.2 → D i ≠ D 0 + 1) ∧ ((partsTo D n k).2 < n → D (partsTo D n k).2 = D 0 + 1) ∧ ∀ i, (partsTo D n k).2 < i → i ≤ k + 1 → i < n → D i ≠ D 0 + 1
  | 0, hk => ⟨fun p hp => by simp [partsTo] at hp, fun h => h1 (by simp [partsTo] at h; omega), fun i hi1 hi2 => by simp [partsTo] at hi1; omega⟩
  | k + 1, hk => by
    obtain ⟨g1, g2, g3⟩ := partsTo_deep D n h1 k (by omega)
    have hs := partsTo_start D n k
    cases h : cutB D n (k + 2) with
    | true =>
      rw [partsTo_yes h]
      refine ⟨fun p hp => ?_, fun hlt => ?_, fun i hi1 hi2 => by simp only at hi1; omega⟩
      · rcases List.mem_append.1 hp with hp | hp
        · exact g1 p hp
        · have e := List.mem_singleton.1 hp
          subst e
          refine ⟨g2 (by omega), fun i hi1 hi2 => g3 i hi1 (by simp only at hi2; omega) (by simp only at hi2; omega)⟩
      · unfold cutB at h
        simp only [Bool.or_eq_true, beq_iff_eq] at h
        exact h.resolve_left (by simp only at hlt; omega)
    | false =>
      rw [partsTo_no h]
      refine ⟨g1, g2, fun i hi1 hi2 hi3 => ?_⟩
      by_cases e : i = k + 2
      · subst e
        unfold cutB at h
        simp only [Bool.or_eq_false_iff, beq_eq_false_iff_ne] at h
        exact h.2
      · exact g3 i hi1 (by omega) hi3
theorem partsP_deep {D : Nat → Int} {n : Nat} (hn : 1 ≤ n) (h1 : 2 ≤ n → D 1 = D 0 + 1) {p : Nat × Nat} (hp : p ∈ partsP D n) : D p.1 = D 0 + 1 ∧ ∀ i, p.1 < i → i < p.2 → D i ≠ D 0 + 1 := (partsTo_deep D n h1 (n - 1) (by omega)).1 p hp
structure PieceOk (L : Nat → Nod) (s n : Nat) : Prop where
  pos : 1 ≤ n
  deep : ∀ i, 0 < i → i < n → (L s).d < (L (s + i)).d
  step : ∀ i, i + 1 < n → (L (s + i + 1)).d ≤ (L (s + i)).d + 1
  node : ∀ i, i < n → elB (L (s + i)) = true ∨ txB (L (s + i)) = true
  par : ∀ i, i + 1 < n → (L (s + i)).d < (L (s + i + 1)).d → elB (L (s + i)) = true
theorem PieceOk.part {L : Nat → Nod} {s n : Nat} (h : PieceOk L s n) {a : Nat × Nat} (ha : a ∈ partsOf L s n) : PieceOk L (s + a.1) (a.2 - a.1) ∧ (1 ≤ a.1 ∧ a.1 < a.2 ∧ a.2 ≤ n) ∧ elB (L s) = true := by
  obtain ⟨h1, h2, h3⟩ := partsP_span h.pos ha
  have hD1 : 2 ≤ n → (L (s + 1)).d = (L (s + 0)).d + 1 := fun hn => by
    have e1 := h.deep 1 (by omega) (by omega)
    have e2 := h.step 0 (by omega)
    simp only [Nat.add_zero] at e2 ⊢
    omega
  obtain ⟨g1, g2⟩ := partsP_deep h.pos hD1 ha
  rw [Nat.add_zero] at g1 g2
  refine ⟨⟨by omega, fun i hi1 hi2 => ?_, fun i hi => ?_, fun i hi => ?_, fun i hi hlt => ?_⟩, ⟨h1, h2, h3⟩, ?_⟩
  · have e1 := g2 (a.1 + i) (by omega) (by omega)
    have e2 := h.deep (a.1 + i) (by omega) (by omega)
    rw [Nat.add_assoc]
    omega
  · have := h.step (a.1 + i) (by omega)
    rw [show s + (a.1 + i) = s + a.1 + i by omega] at this
    exact this
  · have := h.node (a.1 + i) (by omega)
    rw [← Nat.add_assoc] at this
    exact this
  · have := h.par (a.1 + i) (by omega)
    rw [show s + (a.1 + i) = s + a.1 + i by omega] at this
    exact this hlt
  · have e1 := h.deep 1 (by omega) (by omega)
    have := h.par 0 (by omega)
    rw [Nat.add_zero] at this
    exact this e1
def TreeAt (R : List RN) (L : Nat → Nod) : Nat → Int → Nat → Nat → Prop
  | 0, _, _, _ => False
  | f + 1, id, s, n => Has R id ∧ (niOf R id).tag = (L s).t ∧ (niOf R id).key = (L s).k ∧ (niOf R id).text = (L s).x ∧ (niOf R id).ats = atsOf (L s) ∧ (niOf R id).kids.length = (partsOf L s n).length ∧ ∀ k, k < (partsOf L s n).length → TreeAt R L f ((niOf R id).kids.getD k 0) (s + ((partsOf L s n).getD k (0, 0)).1) (((partsOf L s n).getD k (0, 0)).2 - ((partsOf L s n).getD k (0, 0)).1)
theorem TreeAt.keep {R R' : List RN} {L : Nat → Nod} : ∀ {f : Nat} {id : Int} {s n : Nat}, TreeAt R L f id s n → (∀ j, Dsc (niOf R) id j → Has R' j ∧ niOf R' j = niOf R j) → TreeAt R' L f id s n
  | 0, _, _, _, h, _ => h
  | f + 1, id, s, n, ⟨h1, h2, h3, h4, h5, h6, h7⟩, hk => by
    obtain ⟨k1, k2⟩ := hk id (.self _)
    unfold TreeAt
    rw [k2]
    refine ⟨k1, h2, h3, h4, h5, h6, fun k hlt => (h7 k hlt).keep fun j hj => hk j (.step ?_ hj)⟩
    rw [List.getD_eq_getElem?_getD, List.getElem?_eq_getElem (by omega)]
    exact List.getElem_mem _
theorem TreeAt.more {R : List RN} {L : Nat → Nod} : ∀ {f g : Nat} {id : Int} {s n : Nat}, TreeAt R L f id s n → f ≤ g → TreeAt R L g id s n
  | 0, _, _, _, _, h, _ => h.elim
  | f + 1, 0, _, _, _, _, hg => by omega
  | f + 1, g + 1, id, s, n, ⟨h1, h2, h3, h4, h5, h6, h7⟩, hg => ⟨h1, h2, h3, h4, h5, h6, fun k hlt => (h7 k hlt).more (by omega)⟩
structure NiFine (x : NI) : Prop where
  rise : Rises x.ats
  text : x.tag.toList.isEmpty = false → x.text = ⟨#[]⟩
  ats : x.tag.toList.isEmpty = true → x.ats = []
theorem att_ok {m : Nod} (h : elB m = true ∨ txB m = true) : AttOk m := ⟨ats_rise h, (el_attr h).1, fun j hj => ⟨(att_name ((el_attr h).2 j hj).1).1, text_size (att_name ((el_attr h).2 j hj).1).2.1⟩⟩
theorem el_tag {m : Nod} (h : elB m = true) : m.t.toList.isEmpty = false ∧ m.x = ⟨#[]⟩ := by
  unfold elB at h
  simp only [Bool.and_eq_true] at h
  refine ⟨?_, bytes_ext ?_⟩
  · cases e : m.t.toList.isEmpty with
    | false => rfl
    | true => rw [name_nonempty e] at h; cases h.1.1.1
  · rw [List.isEmpty_iff.1 h.1.1.2, ByteArray.toList_eq]
theorem tx_tag {m : Nod} (h : txB m = true) : m.t.toList.isEmpty = true ∧ m.x.size ≤ 20 ∧ m.an = 0 := by
  unfold txB at h
  simp only [Bool.and_eq_true, decide_eq_true_eq] at h
  exact ⟨h.1.1.1, text_size h.2, h.1.2⟩
theorem run_dress {R : List RN} {last : Int} (h : DocOk R last) (hF : Fine R) {c : Int} (hc : Has R c) {x : NI} (hx : niOf R c = x) (hn : NiFine x) {ln : Nod} (ho : elB ln = true ∨ txB ln = true) (htag : x.tag = ln.t) :
    ∃ R', RunL R last (textP c x ln ++ attrsP c x ln) R' last ∧ Only R R' c { x with text := ln.x, ats := atsOf ln } := by
  rcases ho with he | ht
  · obtain ⟨e1, e2⟩ := el_tag he
    have e3 : x.tag.toList.isEmpty = false := by rw [htag]; exact e1
    have e4 : x.text = ln.x := by rw [hn.text e3, e2]
    obtain ⟨R', h1, h2⟩ := run_attrs h hF hc hx e3 hn.rise (att_ok (.inl he))
    refine ⟨R', ?_, ?_⟩
    · rw [textP_yes (by rw [e4]; simp), List.nil_append]
      exact h1
    · rw [← e4]
      exact h2
  · obtain ⟨e1, e2, e3⟩ := tx_tag ht
    have e4 : x.tag.toList.isEmpty = true := by rw [htag]; exact e1
    have e5 := hn.ats e4
    have e6 : atsOf ln = [] := by unfold atsOf; rw [e3]; rfl
    have e7 : attrsP c x ln = [] := by unfold attrsP; rw [e5, e3]; rfl
    rw [e7, e6, List.append_nil]
    cases hq : (x.text.toList == ln.x.toList) with
    | true =>
      have e8 : x.text = ln.x := bytes_ext (by simpa using hq)
      refine ⟨R, ?_, .refl ?_⟩
      · rw [textP_yes hq]; exact .nil ..
      · rw [hx, ← e8, ← e5]
    | false =>
      obtain ⟨f1, f2, f3, f4, f5, f6⟩ := eff_write h hc (by rw [hx]; exact e4) e2
      refine ⟨_, ?_, f2, f3, ?_, f6⟩
      · rw [textP_no hq]
        have h7 := RunL.one f1
        rw [f5] at h7
        exact h7
      · rw [f4, hx, ← e5]
end Go.Proofs.Ytobgcaemnpkbmaa
namespace Go.Proofs.Ytobgcaemnpkbmaa
open Go.RowKit
theorem places_key (A : Nat → ByteArray × Int) (x : LK) : ∀ n v, placesTo A n x = some v → ∃ p : Nat, v = (p : Int) ∧ p < n ∧ x = ⟨(A p).1, (A p).2, cntP A (A p) p⟩
  | 0, v, h => by cases h
  | n + 1, v, h => by
    rw [placesTo] at h
    unfold putF at h
    split at h
    · next e =>
      cases h
      exact ⟨n, rfl, by omega, e⟩
    · obtain ⟨p, h1, h2, h3⟩ := places_key A x n v h
      exact ⟨p, h1, by omega, h3⟩
theorem cntP_mono (A : Nat → ByteArray × Int) (x : ByteArray × Int) (i : Nat) : ∀ k, cntP A x i ≤ cntP A x (i + k)
  | 0 => Nat.le_refl _
  | k + 1 => by
    have := cntP_mono A x i k
    rw [← Nat.add_assoc, cntP]
    omega
theorem cntP_less {A : Nat → ByteArray × Int} {x : ByteArray × Int} {i j : Nat} (h : i < j) (e : A i = x) : cntP A x i < cntP A x j := by
  have h1 := cntP_mono A x (i + 1) (j - (i + 1))
  rw [show i + 1 + (j - (i + 1)) = j by omega, cntP, if_pos e] at h1
  omega
theorem pair_key {A : Nat → ByteArray × Int} {n : Nat} {B : Nat → ByteArray × Int} {j : Nat} {v : Int} (h : pairAt A n B j = v) (hv : v ≠ -1) : ∃ p : Nat, v = (p : Int) ∧ p < n ∧ B j = A p ∧ cntP B (B j) j = cntP A (A p) p := by
  unfold pairAt at h
  cases e : placesTo A n ⟨(B j).1, (B j).2, cntP B (B j) j⟩ with
  | none => rw [e] at h; exact absurd h.symm hv
  | some w =>
    rw [e] at h
    obtain ⟨p, h1, h2, h3⟩ := places_key A _ n w e
    have h4 : w = v := h
    rw [LK.mk.injEq] at h3
    refine ⟨p, by rw [← h4]; exact h1, h2, Prod.ext h3.1 h3.2.1, ?_⟩
    have := h3.2.2
    omega
theorem pair_inj {A : Nat → ByteArray × Int} {n : Nat} {B : Nat → ByteArray × Int} {i j : Nat} {v : Int} (hi : pairAt A n B i = v) (hj : pairAt A n B j = v) (hv : v ≠ -1) : i = j := by
  obtain ⟨p, h1, h2, h3, h4⟩ := pair_key hi hv
  obtain ⟨q, g1, g2, g3, g4⟩ := pair_key hj hv
  have e : p = q := by omega
  subst e
  have e2 : B i = B j := by rw [h3, g3]
  rcases Nat.lt_trichotomy i j with h | h | h
  · have := cntP_less (A := B) h e2
    rw [← e2] at g4
    rw [e2] at h4
    have h5 := cntP_less (A := B) (x := B j) h e2
    rw [e2] at g4
    omega
  · exact h
  · have h5 := cntP_less (A := B) (x := B i) h e2.symm
    rw [e2] at h4
    rw [e2] at h5
    omega
theorem rows_fall (v : Nat → Int) : ∀ n c, c ∈ rowsTo v n → c ≠ [] ∧ c.Pairwise fun x y => y < x ∧ v y < v x
  | 0, c, h => by simp [rowsTo] at h
  | i + 1, c, h => by
    have ih := rows_fall v i
    have hlt := rowsTo_lt v i
    have hnew : newC (rowsTo v i) (endAt v (rowsTo v i) i) i ≠ [] ∧ (newC (rowsTo v i) (endAt v (rowsTo v i) i) i).Pairwise fun x y => y < x ∧ v y < v x := by
      refine ⟨by unfold newC; simp, ?_⟩
      unfold newC
      split
      · simp
      · next hne =>
        have hle := endAt_le v (rowsTo v i) i
        have hlt2 : endAt v (rowsTo v i) i - 1 < (rowsTo v i).length := by omega
        have hmem : (rowsTo v i).getD (endAt v (rowsTo v i) i - 1) [] ∈ rowsTo v i := by
          rw [List.getD_eq_getElem?_getD, List.getElem?_eq_getElem hlt2]; exact List.getElem_mem _
        have hhead : v (headN ((rowsTo v i).getD (endAt v (rowsTo v i) i - 1) [])) < v i := by
          have h1 : ∀ c, c ∈ (rowsTo v i).takeWhile (fun c => decide (v (headN c) < v i)) → v (headN c) < v i := fun c hc => by
            have := List.all_eq_true.1 (List.all_takeWhile (l := rowsTo v i) (p := fun c => decide (v (headN c) < v i))) c hc
            simpa using this
          refine h1 _ ?_
          rw [List.getD_eq_getElem?_getD, List.getElem?_eq_getElem hlt2]
          have h2 : endAt v (rowsTo v i) i - 1 < ((rowsTo v i).takeWhile (fun c => decide (v (headN c) < v i))).length := by
            show _ < endAt v (rowsTo v i) i
            omega
          have h3 : ((rowsTo v i).takeWhile (fun c => decide (v (headN c) < v i)))[endAt v (rowsTo v i) i - 1] = (rowsTo v i)[endAt v (rowsTo v i) i - 1] := (List.takeWhile_prefix _).getElem h2
          show (rowsTo v i)[endAt v (rowsTo v i) i - 1] ∈ _
          rw [← h3]
          exact List.getElem_mem _
        obtain ⟨g1, g2⟩ := ih _ hmem
        have g3 := hlt _ hmem
        generalize (rowsTo v i).getD (endAt v (rowsTo v i) i - 1) [] = d at *
        rw [List.pairwise_cons]
        refine ⟨fun y hy => ⟨g3 y hy, ?_⟩, g2⟩
        cases d with
        | nil => simp at hy
        | cons a d =>
          have ha : headN (a :: d) = a := rfl
          rw [ha] at hhead
          rcases List.mem_cons.1 hy with e | e
          · rw [e]; exact hhead
          · have := ((List.pairwise_cons.1 g2).1 y e).2
            omega
    rw [rowsTo] at h
    unfold rowStep at h
    split at h
    · rcases List.mem_or_eq_of_mem_set h with h | h
      · exact ih c h
      · rw [h]; exact hnew
    · rcases List.mem_append.1 h with h | h
      · exact ih c h
      · rw [List.mem_singleton.1 h]; exact hnew
theorem row_chain (v : Nat → Int) (n : Nat) : ∃ c : List Nat, rowP v n = c.map v ∧ c.Pairwise (fun x y => x < y ∧ v x < v y) ∧ ∀ x, x ∈ c → x < n := by
  refine ⟨((rowsTo v n).getLastD []).reverse, ?_, ?_, ?_⟩
  · unfold rowP; rw [List.map_reverse]
  · rw [List.pairwise_reverse]
    cases e : rowsTo v n with
    | nil => simp
    | cons a l => exact (rows_fall v n _ (by rw [← e]; exact getLastD_mem' _ _ (by rw [e]; simp))).2
  · intro x hx
    rw [List.mem_reverse] at hx
    cases e : rowsTo v n with
    | nil => rw [e] at hx; simp at hx
    | cons a l => exact rowsTo_lt v n _ (getLastD_mem' _ _ (by rw [e]; simp)) x hx
theorem stay_rise (pr : List Int) : (stayOf pr).Pairwise (fun a b => a < b) ∧ (stayOf pr).Sublist pr := by
  obtain ⟨c, h1, h2, h3⟩ := row_chain (fun j => (pr.filter keepB).getD j 0) (pr.filter keepB).length
  unfold stayOf
  rw [h1]
  refine ⟨List.pairwise_map.2 (h2.imp fun h => h.2), ?_⟩
  have h4 : c.Sublist (List.range (pr.filter keepB).length) := sorted_sub (lt := fun a b : Nat => a < b) (fun a => Nat.lt_irrefl a) (fun a b c => Nat.lt_trans) _ c (h2.imp fun h => h.1) List.pairwise_lt_range fun a ha => List.mem_range.2 (h3 a ha)
  have h5 := h4.map (fun j => (pr.filter keepB).getD j 0)
  have h6 : (List.range (pr.filter keepB).length).map (fun j => (pr.filter keepB).getD j 0) = pr.filter keepB := by
    refine List.ext_getElem (by simp) fun i h7 h8 => ?_
    simp [h8]
  rw [h6] at h5
  exact h5.trans List.filter_sublist
end Go.Proofs.Ytobgcaemnpkbmaa
namespace Go.Proofs.Ytobgcaemnpkbmaa
open Go.RowKit
def outB (ks pr : List Int) (k : Nat) (c : Int) : Bool := (List.range k).any fun j => (ks.getD j 0 == c) && !(pr.contains (j : Int))
theorem outB_succ (ks pr : List Int) (k : Nat) (c : Int) : outB ks pr (k + 1) c = (outB ks pr k c || ((ks.getD k 0 == c) && !(pr.contains (k : Int)))) := by
  unfold outB
  rw [List.range_succ, List.any_append]
  simp
theorem outB_iff {ks pr : List Int} {k : Nat} {c : Int} : outB ks pr k c = true ↔ ∃ j, j < k ∧ ks.getD j 0 = c ∧ pr.contains (j : Int) = false := by
  unfold outB
  rw [List.any_eq_true]
  constructor
  · rintro ⟨j, hj, e⟩
    simp only [Bool.and_eq_true, beq_iff_eq, Bool.not_eq_true'] at e
    exact ⟨j, List.mem_range.1 hj, e.1, e.2⟩
  · rintro ⟨j, hj, e1, e2⟩
    refine ⟨j, List.mem_range.2 hj, ?_⟩
    rw [e1, e2]
    simp
theorem getD_mem {l : List Int} {j : Nat} (h : j < l.length) : l.getD j 0 ∈ l := by
  rw [List.getD_eq_getElem?_getD, List.getElem?_eq_getElem h]
  exact List.getElem_mem _
theorem nodup_inj {l : List Int} (h : l.Nodup) {i j : Nat} (hi : i < l.length) (hj : j < l.length) (e : l.getD i 0 = l.getD j 0) : i = j := by
  rw [List.getD_eq_getElem?_getD, List.getElem?_eq_getElem hi, List.getD_eq_getElem?_getD, List.getElem?_eq_getElem hj] at e
  have e : l[i] = l[j] := e
  rcases Nat.lt_trichotomy i j with h1 | h1 | h1
  · exact absurd e (List.pairwise_iff_getElem.1 h i j hi hj h1)
  · exact h1
  · exact absurd e.symm (List.pairwise_iff_getElem.1 h j i hj hi h1)
theorem kin_nodup {R : List RN} (hI : Ids R) {i : Int} (hi : Has R i) : (niOf R i).kids.Nodup := by rw [ni_kids hI hi]; exact kidIds_nodup hI i
theorem kid_root {R : List RN} {last : Int} (h : DocOk R last) {i c : Int} (hi : Has R i) (hc : c ∈ (niOf R i).kids) : c ≠ 1 := fun e => by
  obtain ⟨n, hn, e1, e2⟩ := kid_node h.ids hi hc
  obtain ⟨m, hm, e3, e4⟩ := h.root
  have := ids_eq h.ids hn hm (by rw [e2, e3, e])
  have hp := has_pos h.ids hi
  rw [this] at e1
  omega
theorem run_rems {R : List RN} {last : Int} (h : DocOk R last) {id : Int} (hid : Has R id) {ks : List Int} (hks : (niOf R id).kids = ks) (pr : List Int) :
    ∀ k, k ≤ ks.length → ∃ R', RunL R last (remsP (fun j => ks.getD j 0) pr k) R' last ∧ DocOk R' last ∧ (∀ i, Has R' i ↔ Has R i ∧ ∀ c, outB ks pr k c = true → ¬ Dsc (niOf R) c i) ∧ (∀ i, Has R' i → i ≠ id → niOf R' i = niOf R i) ∧ Has R' id ∧ niOf R' id = { niOf R id with kids := ks.filter (fun c => !outB ks pr k c) } ∧ R'.length ≤ R.length
  | 0, _ => by
    have e : ks.filter (fun c => !outB ks pr 0 c) = ks := by rw [List.filter_eq_self]; intro c _; rfl
    refine ⟨R, .nil .., h, fun i => ⟨fun hi => ⟨hi, fun c hc => by cases hc⟩, fun hi => hi.1⟩, fun _ _ _ => rfl, hid, ?_, Nat.le_refl _⟩
    rw [e, ← hks]
  | k + 1, hk => by
    obtain ⟨R', h1, hd, h2, h3, h4, h5, h6⟩ := run_rems h hid hks pr k (by omega)
    have hI := h.ids
    have hnd : ks.Nodup := by rw [← hks]; exact kin_nodup hI hid
    cases hq : pr.contains (k : Int) with
    | true =>
      have e : ∀ c, outB ks pr (k + 1) c = outB ks pr k c := fun c => by rw [outB_succ, hq]; simp
      refine ⟨R', by rw [remsP_yes hq]; exact h1, hd, fun i => ?_, h3, h4, ?_, h6⟩
      · rw [h2]
        simp only [e]
      · rw [h5]
        simp only [e]
    | false =>
      have hkl : k < ks.length := by omega
      generalize hc0 : ks.getD k 0 = c0
      have hmem : c0 ∈ ks := by rw [← hc0]; exact getD_mem hkl
      have hkid : c0 ∈ (niOf R id).kids := by rw [hks]; exact hmem
      have hout : ∀ c, outB ks pr k c = true → c ∈ (niOf R id).kids ∧ c ≠ c0 := fun c hc => by
        obtain ⟨j, hj, e1, _⟩ := outB_iff.1 hc
        refine ⟨by rw [hks, ← e1]; exact getD_mem (by omega), fun e2 => ?_⟩
        have := nodup_inj hnd (show j < ks.length by omega) hkl (by rw [e1, hc0, e2])
        omega
      have hsub : ∀ p, Dsc (niOf R) c0 p → Has R' p ∧ niOf R' p = niOf R p := fun p hp => by
        have hP : Has R' p := (h2 p).2 ⟨dsc_has hI (kid_has hI hid hkid) hp, fun c hc hd2 => by
          obtain ⟨g1, g2⟩ := hout c hc
          exact dsc_apart h hid g1 hkid g2 hd2 hp⟩
        exact ⟨hP, h3 p hP fun e => by subst e; exact dsc_not h hid hkid hp⟩
      have hiff : ∀ i, Dsc (niOf R') c0 i ↔ Dsc (niOf R) c0 i := fun i => ⟨fun hd2 => hd2.back fun p hp => (hsub p hp).2, fun hd2 => hd2.keep fun p hp => (hsub p hp).2⟩
      obtain ⟨f1, f2, f3, f4, f5⟩ := eff_remove hd (hsub c0 (.self _)).1 (kid_root h hid hkid)
      have hd2 := hd.did f1
      rw [f4] at hd2
      have hno : ¬ Dsc (niOf R') c0 id := fun e => dsc_not h hid hkid ((hiff id).1 e)
      have e1 : ∀ c, outB ks pr (k + 1) c = true ↔ outB ks pr k c = true ∨ c = c0 := fun c => by
        rw [outB_succ, hq, hc0]
        simp only [Bool.or_eq_true, Bool.and_eq_true, beq_iff_eq, Bool.not_false, and_true]
        exact or_congr Iff.rfl eq_comm
      refine ⟨_, by rw [remsP_no hq]; exact h1.app (by have h7 := RunL.one f1; rw [f4] at h7; simp only [hc0]; exact h7), hd2, fun i => ?_, fun i hi hne => ?_, ?_, ?_, Nat.le_trans f5 h6⟩
      · rw [f2, h2, hiff]
        constructor
        · rintro ⟨⟨g1, g2⟩, g3⟩
          refine ⟨g1, fun c hc => ?_⟩
          rcases (e1 c).1 hc with e | e
          · exact g2 c e
          · rw [e]; exact g3
        · rintro ⟨g1, g2⟩
          exact ⟨⟨g1, fun c hc => g2 c ((e1 c).2 (.inl hc))⟩, g2 c0 ((e1 c0).2 (.inr rfl))⟩
      · obtain ⟨g1, g2⟩ := (f2 i).1 hi
        rw [f3 i g1 g2, h3 i g1 hne]
        have : (niOf R i).kids.filter (fun j => j != c0) = (niOf R i).kids := by
          rw [List.filter_eq_self]
          intro c hc
          have : c ≠ c0 := fun e => by
            subst e
            exact hne (kid_one hI ((h2 i).1 g1).1 hid hc hkid)
          simpa using this
        rw [this]
      · exact (f2 id).2 ⟨h4, hno⟩
      · rw [f3 id h4 hno, h5]
        have : (ks.filter (fun c => !outB ks pr k c)).filter (fun j => j != c0) = ks.filter (fun c => !outB ks pr (k + 1) c) := by
          rw [List.filter_filter]
          refine List.filter_congr fun c _ => ?_
          rw [outB_succ, hq, hc0]
          have e2 : (c0 == c) = (c == c0) := BEq.comm
          rw [e2]
          cases outB ks pr k c <;> simp [bne]
        simp only [this]
end Go.Proofs.Ytobgcaemnpkbmaa
namespace Go.Proofs.Ytobgcaemnpkbmaa
open Go.RowKit
def BringS (T : Int → NI) (L : Nat → Nod) (br : Br) (f : Nat) : Prop :=
  ∀ (R : List RN) (last id : Int) (x : NI) (s n : Nat), DocOk R last → Fine R → n ≤ f → PieceOk L s n → Has R id → niOf R id = x → NiFine x → x.tag = (L s).t → x.key = (L s).k → R.length + n ≤ 801 → (∀ j, Dsc (niOf R) id j → j ≠ id → niOf R j = T j) →
  ∃ R', RunL R last (br id x s n last).1 R' (br id x s n last).2 ∧ TreeAt R' L f id s n ∧ (∀ j, Has R j → ¬ Dsc (niOf R) id j → Has R' j ∧ niOf R' j = niOf R j ∧ ¬ Dsc (niOf R') id j) ∧ (∀ j, Has R' j → (Has R j ∧ ¬ Dsc (niOf R) id j) ∨ Dsc (niOf R') id j) ∧ R'.length + 1 ≤ R.length + n
structure KInv (T : Int → NI) (L : Nat → Nod) (R : List RN) (id : Int) (y : NI) (ks pr : List Int) (s : Nat) (ps : List (Nat × Nat)) (f kt kp sz : Nat) (Rk : List RN) (kk proc sk : List Int) : Prop where
  hid : Has Rk id
  ni : niOf Rk id = { y with kids := kk }
  len : proc.length = kp
  filt : kk.filter (fun b => proc.contains b || sk.contains b) = proc ++ sk
  mem : ∀ b, b ∈ kk → b ∈ proc ∨ ∃ j, kp ≤ j ∧ j < ps.length ∧ pr.getD j 0 ≠ -1 ∧ b = ks.getD (pr.getD j 0).toNat 0
  pend : ∀ j, kp ≤ j → j < ps.length → pr.getD j 0 ≠ -1 → ks.getD (pr.getD j 0).toNat 0 ∈ kk ∧ ks.getD (pr.getD j 0).toNat 0 ∉ proc ∧ ∀ i, Dsc (niOf Rk) (ks.getD (pr.getD j 0).toNat 0) i → niOf Rk i = T i
  tree : ∀ j, j < kt → TreeAt Rk L f (proc.getD j 0) (s + (ps.getD j (0, 0)).1) ((ps.getD j (0, 0)).2 - (ps.getD j (0, 0)).1)
  frame : ∀ j, Has R j → ¬ Dsc (niOf R) id j → Has Rk j ∧ niOf Rk j = niOf R j ∧ ¬ Dsc (niOf Rk) id j
  cover : ∀ j, Has Rk j → (Has R j ∧ ¬ Dsc (niOf R) id j) ∨ Dsc (niOf Rk) id j
  size : Rk.length ≤ R.length + sz
theorem KInv.kids {T : Int → NI} {L : Nat → Nod} {R : List RN} {id : Int} {y : NI} {ks pr : List Int} {s : Nat} {ps : List (Nat × Nat)} {f kt kp sz : Nat} {Rk : List RN} {kk proc sk : List Int} (h : KInv T L R id y ks pr s ps f kt kp sz Rk kk proc sk) : (niOf Rk id).kids = kk := by rw [h.ni]
theorem KInv.inn {T : Int → NI} {L : Nat → Nod} {R : List RN} {id : Int} {y : NI} {ks pr : List Int} {s : Nat} {ps : List (Nat × Nat)} {f kt kp sz : Nat} {Rk : List RN} {kk proc sk : List Int} (h : KInv T L R id y ks pr s ps f kt kp sz Rk kk proc sk) {b : Int} (hb : b ∈ proc ∨ b ∈ sk) : b ∈ kk := by
  have : b ∈ proc ++ sk := by rcases hb with e | e; exact List.mem_append_left _ e; exact List.mem_append_right _ e
  rw [← h.filt] at this
  exact (List.mem_filter.1 this).1
theorem dsc_kid {T : Int → NI} {i j : Int} : Dsc T i j ↔ j = i ∨ ∃ c, c ∈ (T i).kids ∧ Dsc T c j := by
  constructor
  · intro h
    cases h with
    | self => exact .inl rfl
    | step h1 h2 => exact .inr ⟨_, h1, h2⟩
  · rintro (e | ⟨c, h1, h2⟩)
    · subst e; exact .self _
    · exact .step h1 h2
theorem KInv.brought {T : Int → NI} {L : Nat → Nod} {R : List RN} {id : Int} {y : NI} {ks pr : List Int} {s : Nat} {ps : List (Nat × Nat)} {f k sz : Nat} {Rk R' : List RN} {l : Int} {kk proc sk : List Int} {c : Int} (h : KInv T L R id y ks pr s ps f k (k + 1) sz Rk kk (proc ++ [c]) sk) (hok : DocOk Rk l)
    (ht : TreeAt R' L f c (s + (ps.getD k (0, 0)).1) ((ps.getD k (0, 0)).2 - (ps.getD k (0, 0)).1)) (hf : ∀ j, Has Rk j → ¬ Dsc (niOf Rk) c j → Has R' j ∧ niOf R' j = niOf Rk j ∧ ¬ Dsc (niOf R') c j) (hc : ∀ j, Has R' j → (Has Rk j ∧ ¬ Dsc (niOf Rk) c j) ∨ Dsc (niOf R') c j) {sz' : Nat} (hs : R'.length ≤ R.length + sz') :
    KInv T L R id y ks pr s ps f (k + 1) (k + 1) sz' R' kk (proc ++ [c]) sk := by
  have hI := hok.ids
  have hkids := h.kids
  have hck : c ∈ kk := h.inn (.inl (by simp))
  have hckid : c ∈ (niOf Rk id).kids := by rw [hkids]; exact hck
  have hplen : proc.length = k := by have := h.len; simp at this; exact this
  have hidn : ¬ Dsc (niOf Rk) c id := dsc_not hok h.hid hckid
  obtain ⟨i1, i2, i3⟩ := hf id h.hid hidn
  have hnd : kk.Nodup := by rw [← hkids]; exact kin_nodup hI h.hid
  have hndp : ((proc ++ [c]) ++ sk).Nodup := by rw [← h.filt]; exact hnd.filter _
  have hcp : c ∉ proc := fun e => by
    have := (List.nodup_append.1 (List.nodup_append.1 hndp).1).2.2 c e c (by simp)
    exact this rfl
  -- a child other than c
  have hoth : ∀ b, b ∈ kk → b ≠ c → ∀ j, Dsc (niOf Rk) b j → Has R' j ∧ niOf R' j = niOf Rk j ∧ ¬ Dsc (niOf R') c j := fun b hb hne j hj =>
    hf j (dsc_has hI (kid_has hI h.hid (by rw [hkids]; exact hb)) hj) fun e => dsc_apart hok h.hid (by rw [hkids]; exact hb) hckid hne hj e
  have hothi : ∀ b, b ∈ kk → b ≠ c → ∀ j, Dsc (niOf R') b j ↔ Dsc (niOf Rk) b j := fun b hb hne j => ⟨fun e => e.back fun p hp => (hoth b hb hne p hp).2.1, fun e => e.keep fun p hp => (hoth b hb hne p hp).2.1⟩
  have hkids' : (niOf R' id).kids = kk := by rw [i2, hkids]
  refine ⟨i1, by rw [i2]; exact h.ni, h.len, h.filt, h.mem, fun j hj1 hj2 hj3 => ?_, fun j hj => ?_, fun j hj hn => ?_, fun j hj => ?_, hs⟩
  · obtain ⟨g1, g2, g3⟩ := h.pend j hj1 hj2 hj3
    have hne : ks.getD (pr.getD j 0).toNat 0 ≠ c := fun e => g2 (by rw [e]; simp)
    refine ⟨g1, g2, fun i hi => ?_⟩
    have hi' := (hothi _ g1 hne i).1 hi
    rw [(hoth _ g1 hne i hi').2.1]
    exact g3 i hi'
  · by_cases e : j = k
    · subst e
      have : (proc ++ [c]).getD j 0 = c := by rw [List.getD_eq_getElem?_getD, ← hplen, List.getElem?_append_right (Nat.le_refl _)]; simp
      rw [this]
      exact ht
    · have hjp : j < proc.length := by omega
      have hb : (proc ++ [c]).getD j 0 ∈ proc := by
        rw [List.getD_eq_getElem?_getD, List.getElem?_append_left hjp, List.getElem?_eq_getElem hjp]
        exact List.getElem_mem _
      have hbk : (proc ++ [c]).getD j 0 ∈ kk := h.inn (.inl (List.mem_append_left _ hb))
      refine (h.tree j (by omega)).keep fun i hi => ?_
      have := hoth _ hbk (fun e2 => hcp (by rw [← e2]; exact hb)) i hi
      exact ⟨this.1, this.2.1⟩
  · obtain ⟨g1, g2, g3⟩ := h.frame j hj hn
    have hnc : ¬ Dsc (niOf Rk) c j := fun e => g3 (dsc_kid.2 (.inr ⟨c, hckid, e⟩))
    obtain ⟨k1, k2, k3⟩ := hf j g1 hnc
    refine ⟨k1, k2.trans g2, fun e => ?_⟩
    rcases dsc_kid.1 e with e1 | ⟨b, hb, hd⟩
    · exact g3 (by rw [e1]; exact .self _)
    · rw [hkids'] at hb
      by_cases hbc : b = c
      · rw [hbc] at hd; exact k3 hd
      · exact g3 (dsc_kid.2 (.inr ⟨b, by rw [hkids]; exact hb, (hothi b hb hbc j).1 hd⟩))
  · rcases hc j hj with ⟨g1, g2⟩ | g
    · rcases h.cover j g1 with e | e
      · exact .inl e
      · right
        rcases dsc_kid.1 e with e1 | ⟨b, hb, hd⟩
        · rw [e1]; exact .self _
        · rw [hkids] at hb
          have hbc : b ≠ c := fun e2 => by rw [e2] at hd; exact g2 hd
          exact dsc_kid.2 (.inr ⟨b, by rw [hkids']; exact hb, (hothi b hb hbc j).2 hd⟩)
    · exact .inr (dsc_kid.2 (.inr ⟨c, by rw [hkids']; exact hck, g⟩))
end Go.Proofs.Ytobgcaemnpkbmaa
