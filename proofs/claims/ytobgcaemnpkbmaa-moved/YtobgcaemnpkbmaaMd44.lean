/- Iq Ke Ir Ja Kg Kf Kh Ki -/
import Derived.Test.YtobgcaemnpkbmaaMd42
import Derived.Test.YtobgcaemnpkbmaaMd43
import Derived.Test.YtobgcaemnpkbmaaMd41
namespace Go.Proofs.Ytobgcaemnpkbmaa
open Go.RowKit
theorem nodup_small : ∀ (l m : List Int), l.Nodup → (∀ a, a ∈ l → a ∈ m) → l.length ≤ m.length
  | [], _, _, _ => Nat.zero_le _
  | a :: l, m, hn, h => by
    obtain ⟨h1, h2⟩ := List.nodup_cons.1 hn
    have hm := h a (List.mem_cons_self ..)
    have := nodup_small l (m.erase a) h2 fun b hb => by
      have hne : b ≠ a := fun e => by rw [e] at hb; exact h1 hb
      exact (List.mem_erase_of_ne hne).2 (h b (List.mem_cons_of_mem _ hb))
    rw [List.length_erase_of_mem hm] at this
    have := List.length_pos_of_mem hm
    simp only [List.length_cons]
    omega
theorem tree_node {R : List RN} {L : Nat → Nod} : ∀ (f : Nat) (id : Int) (s n : Nat) (j : Int), PieceOk L s n → TreeAt R L f id s n → Dsc (niOf R) id j → ∃ i, i < n ∧ (niOf R j).tag = (L (s + i)).t ∧ (niOf R j).key = (L (s + i)).k ∧ (niOf R j).text = (L (s + i)).x ∧ (niOf R j).ats = atsOf (L (s + i))
  | 0, _, _, _, _, _, h, _ => h.elim
  | f + 1, id, s, n, j, hpc, ⟨h1, h2, h3, h4, h5, h6, h7⟩, hd => by
    rcases dsc_kid.1 hd with e | ⟨c, hc, hd⟩
    · rw [e]
      exact ⟨0, hpc.pos, h2, h3, h4, h5⟩
    · obtain ⟨k, hk, rfl⟩ := List.getElem_of_mem hc
      have hk' : k < (partsOf L s n).length := by omega
      have hm : (partsOf L s n)[k] ∈ partsOf L s n := List.getElem_mem hk'
      have eg : (partsOf L s n).getD k (0, 0) = (partsOf L s n)[k] := by rw [List.getD_eq_getElem?_getD, List.getElem?_eq_getElem hk']; rfl
      have ek : (niOf R id).kids.getD k 0 = (niOf R id).kids[k] := by rw [List.getD_eq_getElem?_getD, List.getElem?_eq_getElem hk]; rfl
      have ht := h7 k hk'
      rw [ek, eg] at ht
      obtain ⟨g1, g2, _⟩ := hpc.part hm
      obtain ⟨i, i1, i2⟩ := tree_node f _ _ _ j g1 ht hd
      refine ⟨(partsOf L s n)[k].1 + i, by omega, ?_⟩
      rw [← Nat.add_assoc]
      exact i2
theorem ni_none {R : List RN} {i : Int} (h : ¬ Has R i) : niOf R i = ⟨0, ⟨#[]⟩, ⟨#[]⟩, [], []⟩ := by
  unfold niOf
  have : R.find? (fun n => n.id == i) = none := by
    rw [List.find?_eq_none]
    intro n hn e
    exact h ⟨n, hn, by simpa using e⟩
  rw [this]
structure IsTree (R : List RN) (last : Int) (L : Nat → Nod) (n : Nat) : Prop where
  ok : DocOk R last
  fine : Fine R
  tree : TreeAt R L n 1 0 n
  all : ∀ j, Has R j → Dsc (niOf R) 1 j
  may : ∀ i, i < n → mayB L i = true
  pos : 0 < n
theorem IsTree.node {R : List RN} {last : Int} {L : Nat → Nod} {n : Nat} (h : IsTree R last L n) {j : Int} (hj : Has R j) : ∃ i, i < n ∧ (niOf R j).tag = (L i).t ∧ (niOf R j).key = (L i).k ∧ (niOf R j).text = (L i).x ∧ (niOf R j).ats = atsOf (L i) := by
  obtain ⟨i, h1, h2⟩ := tree_node n 1 0 n j (piece_of h.pos h.may) h.tree (h.all j hj)
  rw [Nat.zero_add] at h2
  exact ⟨i, h1, h2⟩
theorem IsTree.niFine {R : List RN} {last : Int} {L : Nat → Nod} {n : Nat} (h : IsTree R last L n) (j : Int) : NiFine (niOf R j) := by
  by_cases hj : Has R j
  · obtain ⟨i, hi, e1, e2, e3, e4⟩ := h.node hj
    have hn := may_node (h.may i hi)
    refine ⟨by rw [e4]; exact ats_rise hn, fun e => ?_, fun e => ?_⟩
    · rw [e1] at e
      rw [e3]
      rcases hn with hh | hh
      · exact (el_tag hh).2
      · rw [(tx_tag hh).1] at e; cases e
    · rw [e1] at e
      rw [e4]
      rcases hn with hh | hh
      · rw [(el_tag hh).1] at e; cases e
      · unfold atsOf; rw [(tx_tag hh).2.2]; rfl
  · rw [ni_none hj]
    exact ⟨List.Pairwise.nil, fun _ => rfl, fun _ => rfl⟩
theorem IsTree.ats {R : List RN} {last : Int} {L : Nat → Nod} {n : Nat} (h : IsTree R last L n) : ∀ m, m ∈ R → m.ats.length ≤ 5 := fun m hm => by
  obtain ⟨i, hi, _, _, _, e4⟩ := h.node ⟨m, hm, rfl⟩
  rw [niOf_mem h.ok.ids hm] at e4
  have e4 : m.ats = atsOf (L i) := e4
  rw [e4, atsOf_length]
  exact (el_attr (may_node (h.may i hi))).1
theorem IsTree.keys {R : List RN} {last : Int} {L : Nat → Nod} {n : Nat} (h : IsTree R last L n) (hk : ∀ i, i < n → I64 (L i).k) : Keys R := fun m hm => by
  obtain ⟨i, hi, _, e2, _, _⟩ := h.node ⟨m, hm, rfl⟩
  rw [niOf_mem h.ok.ids hm] at e2
  have e2 : m.key = (L i).k := e2
  rw [e2]
  exact hk i hi
theorem IsTree.tells {R : List RN} {last : Int} {L : Nat → Nod} {n : Nat} (h : IsTree R last L n) {r : Nat} (hr : r < R.length) (hr1 : R[r].id = 1) : TellsL R L (walkP R R.length r 0) 0 ∧ (walkP R R.length r 0).length = n ∧ (widP R R.length r).length = n ∧ R.length = n := by
  obtain ⟨rk, hU⟩ := h.ok.up
  have hI := h.ok.ids
  have hf := fitP_all hU hr
  have e : idAt R r = 1 := by rw [idAt_lt hr, hr1]
  have ht := tree_tells hI n R.length r 0 n (piece_of h.pos h.may) (by rw [e]; exact h.tree) hf
  rw [mayB_zero (h.may 0 h.pos)] at ht
  have hw : (widP R R.length r).length = n := by rw [(wid_facts h.ok hr hr1).1]; exact ht.2
  refine ⟨ht.1, ht.2, hw, ?_⟩
  have h1 := (wid_facts h.ok hr hr1).2.2.2.1
  have h2 := nodup_small (R.map (·.id)) (widP R R.length r) (by
    unfold List.Nodup
    rw [List.pairwise_map, List.pairwise_iff_getElem]
    intro i j hi hj hij e2
    have := hI.inj i j hi hj e2
    omega) fun a ha => by
    obtain ⟨m, hm, rfl⟩ := List.mem_map.1 ha
    have := (wid_dsc hI R.length r hf m.id).2
    rw [e] at this
    exact this (h.all _ ⟨m, hm, rfl⟩)
  rw [List.length_map] at h2
  omega
theorem made_is {L : Nat → Nod} {n : Nat} (hn : 0 < n) (hmay : ∀ i, i < n → mayB L i = true) : IsTree (madeR L n) n L n := by
  have hp := piece_of hn hmay
  have ht : TreeAt (madeR L n) L n 1 0 n := made_tree hmay n 0 n (Nat.le_refl _) hp ⟨by omega, fun h => by omega⟩
  refine ⟨made_ok hn hmay, made_fine hmay, ht, fun j hj => ?_, hmay, hn⟩
  have hok := made_ok hn hmay
  have hI := hok.ids
  obtain ⟨rk, hU⟩ := hok.up
  have hr : 0 < (madeR L n).length := by rw [madeR_length]; exact hn
  have hr1 : (madeR L n)[0].id = 1 := by rw [madeR_get]; rfl
  have hf := fitP_all hU hr
  have e : idAt (madeR L n) 0 = 1 := by rw [idAt_lt hr, hr1]
  have hl := (tree_tells hI n (madeR L n).length 0 0 n hp (by rw [e]; exact ht) hf).2
  rw [mayB_zero (hmay 0 hn)] at hl
  obtain ⟨w1, _, _, _, w5⟩ := wid_facts hok hr hr1
  by_cases hd : Dsc (niOf (madeR L n)) 1 j
  · exact hd
  · exfalso
    have hjm : j ∈ (madeR L n).map (·.id) := by
      obtain ⟨m, hm, e⟩ := hj
      exact List.mem_map.2 ⟨m, hm, e⟩
    have h2 := nodup_small (widP (madeR L n) (madeR L n).length 0) (((madeR L n).map (·.id)).erase j) w5 fun a ha => by
      have hd2 := (wid_dsc hI (madeR L n).length 0 hf a).1 ha
      rw [e] at hd2
      have hne : a ≠ j := fun e2 => by rw [e2] at hd2; exact hd hd2
      obtain ⟨m, hm, e3⟩ := dsc_has hI ⟨(madeR L n)[0], List.getElem_mem hr, hr1⟩ hd2
      exact (List.mem_erase_of_ne hne).2 (List.mem_map.2 ⟨m, hm, e3⟩)
    rw [List.length_erase_of_mem hjm, List.length_map, w1, hl] at h2
    have := madeR_length L n
    omega
theorem IsTree.diff {R : List RN} {last : Int} {L0 : Nat → Nod} {n0 : Nat} (h : IsTree R last L0 n0) (h04 : R.length ≤ 400) {L : Nat → Nod} {n : Nat} (hn : 0 < n) (hn4 : n ≤ 400) (hmay : ∀ i, i < n → mayB L i = true) (ht : (niOf R 1).tag = (L 0).t) (hk : (niOf R 1).key = (L 0).k) :
    ∃ R' last', RunL R last (diffP R last L n) R' last' ∧ IsTree R' last' L n ∧ last ≤ last' ∧ last' ≤ last + n ∧ KeepAt R' (niOf R) L n 1 (niOf R 1).kids 0 n := by
  have hsm := niOf_small (R := R) (by omega) h.ats
  obtain ⟨m, hm, e1, _⟩ := h.ok.root
  have hroot : Has R 1 := ⟨m, hm, e1⟩
  obtain ⟨R', r1, r2, r3, r4, r5, r6⟩ := bring_s (L := L) h.niFine hsm n R last 1 (niOf R 1) 0 n h.ok h.fine (Nat.le_refl _) (piece_of hn hmay) hroot rfl (h.niFine 1) ht hk (by omega) (fun j _ _ => rfl)
  obtain ⟨d1, d2⟩ := r1.ok h.ok h.fine
  have hfew := bringP_few (L := L) hsm n 1 (niOf R 1) 0 n last (hsm 1).1 (hsm 1).2 hn (Nat.le_refl _) (fun i hi => by rw [Nat.zero_add]; exact (el_attr (may_node (hmay i hi))).1)
  refine ⟨R', _, r1, ⟨d1, d2, r2, fun j hj => ?_, hmay, hn⟩, hfew.2.1, by omega, r6⟩
  rcases r4 j hj with ⟨e1, e2⟩ | e
  · exact absurd (h.all j e1) e2
  · exact e
end Go.Proofs.Ytobgcaemnpkbmaa
namespace Go.Proofs.Ytobgcaemnpkbmaa
open Go.RowKit
theorem partsTo_flat {D : Nat → Int} {n : Nat} (h : ∀ i, 0 < i → i < n → D i = D 0 + 1) : ∀ k, k + 1 ≤ n → partsTo D n k = ((List.range k).map (fun j : Nat => (j + 1, j + 2)), k + 1)
  | 0, _ => rfl
  | k + 1, hk => by
    have hc : cutB D n (k + 2) = true := by
      unfold cutB
      by_cases e : k + 2 = n
      · simp [e]
      · rw [h (k + 2) (by omega) (by omega)]; simp
    rw [partsTo_yes hc, partsTo_flat h k (by omega), List.range_succ, List.map_append]
    rfl
theorem parts_flat {L : Nat → Nod} {s n : Nat} (hn : 1 ≤ n) (h : ∀ i, 0 < i → i < n → (L (s + i)).d = (L s).d + 1) : partsOf L s n = (List.range (n - 1)).map fun j : Nat => (j + 1, j + 2) := by
  unfold partsOf partsP
  rw [partsTo_flat (D := fun i => (L (s + i)).d) (fun i h1 h2 => h i h1 h2) (n - 1) (by omega)]
theorem leaf_none {T : Int → NI} {L : Nat → Nod} {f : Nat} {id : Int} {x : NI} {s : Nat} {last : Int} (hf : 1 ≤ f) (hx : x.text = (L s).x) (ha : x.ats = atsOf (L s)) (hk : x.kids = []) : bringP T L f id x s 1 last = ([], last) := by
  match f, hf with
  | f + 1, _ =>
    have hp : partsOf L s 1 = [] := rfl
    have hb : bringKidsP (bringP T L f) T L id x s 1 last = ([], last) := by
      unfold bringKidsP
      simp only [hp, hk]
      rfl
    simp only [bringP, textP_yes (id := id) (x := x) (n := L s) (by rw [hx]; simp), attrs_none ha, hb]
    rfl
theorem done_len {br : Br} {T : Int → NI} {L : Nat → Nod} {id : Int} {ks : List Int} {s : Nat} {ps : List (Nat × Nat)} {pr : List Int} {q : KS} (hl : pr.length = ps.length) (hsn : ∀ v, v ∈ q.stay → v ≠ -1) (hz : ∀ k, k < ps.length → partPats br T L ks s (kidsDone br T L id ks s ps pr q k) (ps.getD k (0, 0)) (pr.getD k 0) = []) : ∀ k, k ≤ ps.length → (kidsDone br T L id ks s ps pr q k).pats.length + q.stay.length = q.pats.length + newN pr k + k + (kidsDone br T L id ks s ps pr q k).stay.length
  | 0, _ => by
    have e : newN pr 0 = 0 := by unfold newN; simp
    simp [kidsDone, e]
  | k + 1, hk => by
    have ih := done_len (br := br) (T := T) (L := L) (id := id) (ks := ks) (s := s) hl hsn hz k (by omega)
    have hsub := kidsDone_sub br T L id ks s ps pr q k
    have hns := newN_succ (pr := pr) (k := k) (by omega)
    have hzk := hz k (by omega)
    simp only [kidsDone]
    generalize kidsDone br T L id ks s ps pr q k = c at *
    unfold partPats at hzk
    by_cases hh : c.stay.head? = some (pr.getD k 0)
    · have hp : pr.getD k 0 ≠ -1 := by
        cases hc : c.stay with
        | nil => rw [hc] at hh; cases hh
        | cons a t =>
          have e : a = pr.getD k 0 := by rw [hc] at hh; simpa using hh
          rw [← e]
          exact hsn a (hsub a (by rw [hc]; simp))
      have hlen : c.stay.tail.length + 1 = c.stay.length := by
        cases hc : c.stay with
        | nil => rw [hc] at hh; cases hh
        | cons a t => simp
      have hns' : newN pr (k + 1) = newN pr k := by rw [hns, if_neg hp]; rfl
      rw [if_neg hp] at hzk
      rw [kidStep_stay hh, hns']
      simp only [hzk, List.append_nil]
      omega
    · by_cases hp : pr.getD k 0 = -1
      · rw [if_pos hp] at hns hzk
        rw [kidStep_new hh hp, hns]
        simp only [hzk, List.append_nil, List.length_append, List.length_cons, List.length_nil]
        omega
      · have hns' : newN pr (k + 1) = newN pr k := by rw [hns, if_neg hp]; rfl
        rw [if_neg hp] at hzk
        rw [kidStep_move hh hp, hns']
        simp only [hzk, List.append_nil, List.length_append, List.length_cons, List.length_nil]
        omega
theorem rems_len (I : Nat → Int) (l : List Int) : ∀ k, (remsP I l k).length = (List.range k).countP fun i : Nat => !l.contains (i : Int)
  | 0 => rfl
  | k + 1 => by
    have ih := rems_len I l k
    rw [List.range_succ, List.countP_append]
    cases h : l.contains (k : Int) with
    | true =>
      rw [remsP_yes h, ih]
      have : [k].countP (fun i : Nat => !l.contains (i : Int)) = 0 := by simp only [List.countP_singleton, h]; rfl
      rw [this]
      rfl
    | false =>
      rw [remsP_no h, List.length_append, ih]
      have : [k].countP (fun i : Nat => !l.contains (i : Int)) = 1 := by simp only [List.countP_singleton, h]; rfl
      rw [this]
      rfl
theorem partsN_zero {j : Int} {br : Br} {T : Int → NI} {L : Nat → Nod} {id : Int} {ks : List Int} {s : Nat} {ps : List (Nat × Nat)} {pr : List Int} {q : KS} (hz : ∀ k, k < ps.length → partPats br T L ks s (kidsDone br T L id ks s ps pr q k) (ps.getD k (0, 0)) (pr.getD k 0) = []) : ∀ k, k ≤ ps.length → partsN j br T L id ks s ps pr q k = 0
  | 0, _ => rfl
  | k + 1, hk => by
    rw [partsN, partsN_zero hz k (by omega), hz k (by omega)]
    rfl
structure Flat (L : Nat → Nod) (n : Nat) : Prop where
  deep : ∀ i, 0 < i → i < n → (L i).d = (L 0).d + 1
  text : ∀ i, i < n → (L i).x = ⟨#[]⟩
  ats : ∀ i, i < n → (L i).an = 0
theorem Flat.none {L : Nat → Nod} {n : Nat} (h : Flat L n) {i : Nat} (hi : i < n) : atsOf (L i) = [] := by unfold atsOf; rw [h.ats i hi]; rfl
theorem flat_kid {R : List RN} {last : Int} {L : Nat → Nod} {n : Nat} (h : IsTree R last L n) (hf : Flat L n) : (niOf R 1).kids.length = n - 1 ∧ ∀ k, k < n - 1 → (niOf R ((niOf R 1).kids.getD k 0)).kids = [] ∧ (niOf R ((niOf R 1).kids.getD k 0)).text = ⟨#[]⟩ ∧ (niOf R ((niOf R 1).kids.getD k 0)).ats = [] ∧ (niOf R ((niOf R 1).kids.getD k 0)).tag = (L (k + 1)).t ∧ (niOf R ((niOf R 1).kids.getD k 0)).key = (L (k + 1)).k := by
  have ht := h.tree
  have hp := h.pos
  have hps : partsOf L 0 n = (List.range (n - 1)).map fun j : Nat => (j + 1, j + 2) := parts_flat hp fun i h1 h2 => by rw [Nat.zero_add]; exact hf.deep i h1 h2
  match n, ht, hp with
  | m + 1, ⟨_, _, _, _, _, h6, h7⟩, _ =>
    rw [hps] at h6 h7
    simp only [List.length_map, List.length_range, Nat.add_sub_cancel] at h6 h7 ⊢
    refine ⟨h6, fun k hk => ?_⟩
    have := h7 k hk
    have e : ((List.range m).map fun j : Nat => (j + 1, j + 2)).getD k (0, 0) = (k + 1, k + 2) := by
      rw [List.getD_eq_getElem?_getD, List.getElem?_map, List.getElem?_range hk]
      rfl
    rw [e] at this
    simp only [Nat.zero_add, show k + 2 - (k + 1) = 1 by omega] at this
    match m, this with
    | m + 1, ⟨_, g2, g3, g4, g5, g6, _⟩ =>
      have hp1 : partsOf L (k + 1) 1 = [] := rfl
      rw [hp1] at g6
      exact ⟨List.length_eq_zero_iff.1 g6, by rw [g4, hf.text (k + 1) (by omega)], by rw [g5, hf.none (by omega)], g2, g3⟩
end Go.Proofs.Ytobgcaemnpkbmaa
namespace Go.Proofs.Ytobgcaemnpkbmaa
open Go.RowKit
theorem runP_shift (X : Nat → Pat) : ∀ (k : Nat) (R : List RN) (l : Int), runP R l X (k + 1) = runP (didP R (X 0)) (lastP l (X 0)) (fun i => X (i + 1)) k
  | 0, _, _ => rfl
  | k + 1, R, l => by
    rw [runP, runP_shift X k R l]
    rfl
theorem runL_runs {R R' : List RN} {l l' : Int} {P : List Pat} (h : RunL R l P R' l') : RunsTo R l (patAt P) P.length ∧ runP R l (patAt P) P.length = (R', l') := by
  induction h with
  | nil R l => exact ⟨RunsTo.zero R l _, rfl⟩
  | @cons R R' l l' x P h1 h2 ih =>
    obtain ⟨i1, i2⟩ := ih
    have e : (fun i => patAt (x :: P) (i + 1)) = patAt P := rfl
    refine ⟨fun j hj => ?_, ?_⟩
    · cases j with
      | zero => exact h1
      | succ j =>
        rw [runP_shift]
        exact i1 j (by simpa using hj)
    · rw [List.length_cons, runP_shift]
      exact i2
theorem can_ok {R : List RN} {last : Int} {x : Pat} (h : DocOk R last) (hl : last ≤ 4611686018427387904) (hc : canP R last x = true) : x.Ok ∧ x.Ints := by
  have hlp := h.last_pos
  have hat : ∀ i, 0 ≤ atP R i → I64 i := fun i hi => by
    rcases at_two h.ids i with ⟨k, hk, e, _⟩ | ⟨_, e⟩
    · have h1 := h.ids.pos _ (List.getElem_mem hk)
      have h2 := h.top _ (List.getElem_mem hk)
      rw [e] at h1 h2
      exact ⟨by omega, by omega⟩
    · omega
  have z0 : I64 0 := ⟨by decide, by decide⟩
  have em : ∀ {s : ByteArray}, s.toList.isEmpty = true → s.size ≤ maxLen := fun {s} hs => by rw [empty_size hs]; exact Nat.zero_le _
  have tw : ∀ {s : ByteArray}, (s.size : Int) ≤ 20 → s.size ≤ maxLen := fun {s} hs => by unfold maxLen; omega
  have nm : ∀ {s : ByteArray}, nameB s = true → s.size ≤ maxLen := fun {s} hs => by have := name_size hs; unfold maxLen; omega
  unfold canP at hc
  split at hc
  · unfold createB at hc
    simp only [Bool.and_eq_true, beq_iff_eq, decide_eq_true_eq] at hc
    obtain ⟨⟨⟨⟨⟨c1, c2⟩, c3⟩, c4⟩, c5⟩, c6⟩ := hc
    unfold oneB at c1
    have hs := el_size (m := nodOf x.tag x.key x.text) (by simpa using c1)
    have h1 : x.tag.size ≤ 8 := hs.1
    have h2 : x.text.size ≤ 20 := hs.2
    exact ⟨⟨by unfold maxLen; omega, em c6, by unfold maxLen; omega⟩, ⟨⟨by omega, by omega⟩, by rw [c4]; exact z0, by rw [c5]; exact z0⟩⟩
  · simp only [Bool.and_eq_true, decide_eq_true_eq] at hc
    obtain ⟨⟨⟨c1, c2⟩, c3⟩, c4⟩ := hc
    split at c4
    · unfold insB at c4
      simp only [Bool.and_eq_true, decide_eq_true_eq, Bool.or_eq_true] at c4
      obtain ⟨⟨⟨⟨⟨⟨d1, d2⟩, d3⟩, d4⟩, d5⟩, d6⟩, d7⟩ := c4
      refine ⟨⟨em c3, em d1, em d2⟩, ⟨hat _ c1, hat _ d4, ?_⟩⟩
      rcases d6 with e | e
      · have : x.bef = 0 := by simpa using e
        rw [this]; exact z0
      · exact hat _ e.1.1
    · simp only [Bool.and_eq_true] at c4
      obtain ⟨⟨d1, d2⟩, d3⟩ := c4
      have e1 : x.par = 0 := by simpa using d1
      have e2 : x.bef = 0 := by simpa using d2
      have hi : x.Ints := ⟨hat _ c1, by rw [e1]; exact z0, by rw [e2]; exact z0⟩
      split at d3
      · unfold remB at d3
        simp only [Bool.and_eq_true] at d3
        exact ⟨⟨em c3, em d3.1.1, em d3.1.2⟩, hi⟩
      · split at d3
        · unfold wriB at d3
          simp only [Bool.and_eq_true, decide_eq_true_eq] at d3
          exact ⟨⟨em c3, em d3.1.1, tw d3.1.2⟩, hi⟩
        · split at d3
          · unfold setB at d3
            simp only [Bool.and_eq_true, decide_eq_true_eq] at d3
            exact ⟨⟨em c3, nm d3.1.1.1, tw d3.1.2⟩, hi⟩
          · split at d3
            · unfold unsB at d3
              simp only [Bool.and_eq_true, decide_eq_true_eq] at d3
              exact ⟨⟨em c3, nm d3.1.1.1.1, em d3.2⟩, hi⟩
            · cases d3
theorem runs_ok {R : List RN} {last : Int} (h : DocOk R last) (hF : Fine R) {X : Nat → Pat} {n : Nat} (hr : RunsTo R last X n) (hl : last + n ≤ 4611686018427387904) : ∀ i, i < n → (X i).Ok ∧ (X i).Ints := fun i hi => by
  obtain ⟨d1, _, d3⟩ := RunsTo.ok h hF (k := i) fun j hj => hr j (by omega)
  exact can_ok d1 (by omega) (hr i hi)
end Go.Proofs.Ytobgcaemnpkbmaa
namespace Go.Proofs.Ytobgcaemnpkbmaa
open Go.RowKit
structure StAt (W w : World) (db : Nat) (L : Nat → Nod) (n : Nat) (R : List RN) (last : Int) (ρ : Roles) (nb : Int → Nat) (mb q : Nat) : Prop where
  dom : DomAt ρ nb mb q db w R last
  tree : IsTree R last L n
  few : n ≤ 400
  keys : ∀ i, i < n → I64 (L i).k
  bel : Below W.heap.size W w
  new : ∀ b, (ρ b).isSome = true → W.heap.size ≤ b
def St (W w : World) (db : Nat) (L : Nat → Nod) (n : Nat) (R : List RN) (last : Int) : Prop := ∃ ρ nb mb q, StAt W w db L n R last ρ nb mb q
theorem St.below {W w w' : World} {db : Nat} {L : Nat → Nod} {n : Nat} {R : List RN} {last : Int} (h : St W w db L n R last) (hb : Below w.heap.size w w') : St W w' db L n R last := by
  obtain ⟨ρ, nb, mb, q, h⟩ := h
  exact ⟨ρ, nb, mb, q, h.dom.below hb, h.tree, h.few, h.keys, h.bel.trans (hb.mono h.bel.size), h.new⟩
theorem St.bel {W w : World} {db : Nat} {L : Nat → Nod} {n : Nat} {R : List RN} {last : Int} (h : St W w db L n R last) : Below W.heap.size W w := by
  obtain ⟨ρ, nb, mb, q, h⟩ := h
  exact h.bel
theorem St.len {W w : World} {db : Nat} {L : Nat → Nod} {n : Nat} {R : List RN} {last : Int} (h : St W w db L n R last) : R.length = n ∧ n ≤ 400 ∧ IsTree R last L n := by
  obtain ⟨ρ, nb, mb, q, h⟩ := h
  obtain ⟨r, hr, hr1, _⟩ := root_at h.tree.ok
  exact ⟨(h.tree.tells hr hr1).2.2.2, h.few, h.tree⟩
theorem IsTree.root {R : List RN} {last : Int} {L : Nat → Nod} {n : Nat} (h : IsTree R last L n) : (niOf R 1).tag = (L 0).t ∧ (niOf R 1).key = (L 0).k := by
  have ht := h.tree
  have hp := h.pos
  match n, ht, hp with
  | n + 1, ⟨_, h2, h3, _⟩, _ => exact ⟨h2, h3⟩
theorem st_new (W w : World) (hb : Below W.heap.size W w) (b o n c : Nat) (L : Nat → Nod) (hn : n ≤ maxLen) (H : ListAt W (some ⟨b, o, none⟩) n L) (hz : (checkOut (mayB L) n).1 = 0) (hk : ∀ i, i < n → I64 (L i).k) :
    Calls Try.prog 14 #[.slice (some ⟨b, o, none⟩) n c] w fun e w' => ∃ db, e = .returned (.tuple #[.pointer (some ⟨db, 0, none⟩), .int .i64 0, .int .i64 0]) ∧ St W w' db L n (madeR L n) n := by
  obtain ⟨_, hn0, hn4, hmay⟩ := check_none hz
  refine (dnew_ok b o n c L w hn (H.below hb) hz).mono ?_
  rintro e w' ⟨ρ, nb, mb, q, db, h1, h2, h3, h4, h5⟩
  exact ⟨db, h1, ρ, nb, mb, q, h4, made_is hn0 hmay, hn4, hk, hb.trans (h5.mono hb.size), fun b e => Nat.le_trans hb.size (h3 b e)⟩
theorem diff_same {R : List RN} {last : Int} {L : Nat → Nod} {n : Nat} (h : IsTree R last L n) (hR : R.length = n) (hn4 : n ≤ 400) : diffE R L n = (0, 0) ∧ diffP R last L n = [] := by
  obtain ⟨e1, e2⟩ := h.root
  have hz : checkOut (mayB L) n = (0, 0) := by
    have hp := h.pos
    unfold checkOut
    rw [if_neg (by omega)]
    unfold search
    have : (List.range n).find? (fun i => !mayB L i) = none := by
      rw [List.find?_eq_none]
      intro i hi
      rw [h.may i (List.mem_range.1 hi)]
      simp
    rw [this]
  refine ⟨?_, ?_⟩
  · unfold diffE
    rw [hz, if_pos rfl, e1, e2]
    simp
    omega
  · unfold diffP
    rw [bring_none n 1 0 n h.tree]
end Go.Proofs.Ytobgcaemnpkbmaa
namespace Go.Proofs.Ytobgcaemnpkbmaa
open Go.RowKit
theorem flat_diff {R : List RN} {last : Int} {L0 : Nat → Nod} {n0 : Nat} (h : IsTree R last L0 n0) (hf0 : Flat L0 n0) {L : Nat → Nod} {m : Nat} (hf : Flat L (m + 1)) {ps : List (Nat × Nat)} (hps : ps = (List.range m).map fun j : Nat => (j + 1, j + 2)) {pr : List Int} (hpr : pairsOf (niOf R) L (niOf R 1).kids 0 ps = pr) :
    partsOf L 0 (m + 1) = ps ∧ (diffP R last L (m + 1)).length + (stayOf pr).length = ((List.range (niOf R 1).kids.length).countP fun i : Nat => !pr.contains (i : Int)) + newN pr m + m ∧ kindN 2 (diffP R last L (m + 1)) = m - (stayOf pr).length := by
  have hpl : ps.length = m := by rw [hps]; simp
  have hpp : partsOf L 0 (m + 1) = ps := by
    rw [hps, parts_flat (by omega) fun i h1 h2 => by rw [Nat.zero_add]; exact hf.deep i h1 h2]
    rfl
  have hl : pr.length = ps.length := by rw [← hpr]; exact pairsOf_length ..
  obtain ⟨k1, k2⟩ := flat_kid h hf0
  have ht := h.tree
  have hp0 := h.pos
  have hx : (niOf R 1).text = ⟨#[]⟩ ∧ (niOf R 1).ats = [] := by
    match n0, ht, hp0, hf0 with
    | n0 + 1, ⟨_, _, _, h4, h5, _⟩, _, hf0 => exact ⟨by rw [h4, hf0.text 0 (by omega)], by rw [h5, hf0.none (by omega)]⟩
  have hd : diffP R last L (m + 1) = (bringKidsP (bringP (niOf R) L m) (niOf R) L 1 (niOf R 1) 0 (m + 1) last).1 := by
    unfold diffP
    simp only [bringP]
    rw [textP_yes (by rw [hx.1, hf.text 0 (by omega)]; simp), attrs_none (by rw [hx.2, hf.none (by omega)])]
    rfl
  have hz : ∀ (q : KS) k, k < ps.length → partPats (bringP (niOf R) L m) (niOf R) L (niOf R 1).kids 0 q (ps.getD k (0, 0)) (pr.getD k 0) = [] := fun q k hk => by
    have e : ps.getD k (0, 0) = (k + 1, k + 2) := by
      rw [hps, List.getD_eq_getElem?_getD, List.getElem?_map, List.getElem?_range (by omega)]
      rfl
    unfold partPats
    rw [e]
    simp only [Nat.zero_add, show k + 2 - (k + 1) = 1 by omega]
    split
    · rw [leaf_none (by omega) rfl (by rw [hf.none (by omega)]) rfl]
    · next hne =>
      have hm : pr.getD k 0 ∈ pr := getD_mem (by omega)
      rw [← hpr] at hm
      rcases pairsOf_range hm with e2 | ⟨e2, e3⟩
      · rw [hpr] at e2; exact absurd e2 hne
      · rw [hpr] at e2 e3
        obtain ⟨g1, g2, g3, _⟩ := k2 (pr.getD k 0).toNat (by omega)
        rw [leaf_none (by omega) (by rw [g2, hf.text (k + 1) (by omega)]) (by rw [g3, hf.none (by omega)]) g1]
  refine ⟨hpp, ?_, ?_⟩
  · have hs := done_stay (br := bringP (niOf R) L m) (T := niOf R) (L := L) (id := 1) (ks := (niOf R 1).kids) (s := 0) (q := ⟨remsP (fun j => (niOf R 1).kids.getD j 0) pr (niOf R 1).kids.length, stayOf pr, last⟩) hl (stay_rise pr).2 ps.length (Nat.le_refl _)
    rw [← hl, List.drop_length] at hs
    have hs0 := List.sublist_nil.1 hs
    rw [hl] at hs0
    have hlen := done_len (br := bringP (niOf R) L m) (T := niOf R) (L := L) (id := 1) (ks := (niOf R 1).kids) (s := 0) (q := ⟨remsP (fun j => (niOf R 1).kids.getD j 0) pr (niOf R 1).kids.length, stayOf pr, last⟩) hl (fun v hv => (stayOf_range hv).2) (fun k hk => hz _ k hk) ps.length (Nat.le_refl _)
    rw [hs0] at hlen
    have hb : (bringKidsP (bringP (niOf R) L m) (niOf R) L 1 (niOf R 1) 0 (m + 1) last).1 = (kidsDone (bringP (niOf R) L m) (niOf R) L 1 (niOf R 1).kids 0 ps pr ⟨remsP (fun j => (niOf R 1).kids.getD j 0) pr (niOf R 1).kids.length, stayOf pr, last⟩ ps.length).pats := by
      unfold bringKidsP
      simp only [hpp, hpr]
    rw [hd, hb]
    simp only [rems_len, List.length_nil, Nat.add_zero] at hlen
    rw [hpl] at hlen ⊢
    omega
  · rw [hd, kids_counts (bringP (niOf R) L m) (niOf R) L 1 (niOf R 1) 0 (m + 1) last 2 pr ps hpp hpr, partsN_zero (fun k hk => hz _ k hk) ps.length (Nat.le_refl _), hpl]
    simp
end Go.Proofs.Ytobgcaemnpkbmaa
namespace Go.Proofs.Ytobgcaemnpkbmaa
open Go.RowKit
def pickK (c : Int) (n : Nat) : Nat := ((if c < 0 then -(c + 1) else c) % (n : Int)).toNat
theorem pickK_lt (c : Int) {n : Nat} (hn : 0 < n) : pickK c n < n := by
  unfold pickK
  have h1 := Int.emod_lt_of_pos (if c < 0 then -(c + 1) else c) (show (0 : Int) < (n : Int) by omega)
  have h2 := Int.emod_nonneg (if c < 0 then -(c + 1) else c) (show (n : Int) ≠ 0 by omega)
  omega
set_option maxRecDepth 100000 in
set_option maxHeartbeats 400000 in
theorem keepPick_any (c : Int) (n : Nat) (w : World) (hn : 0 < n) (hn2 : n ≤ 1099511627776) (hc1 : -9223372036854775808 ≤ c) (hc2 : c ≤ 9223372036854775807) :
    Calls Try.prog 22 #[.int .i64 c, .int .i64 n] w fun e w' => e = .returned (.int .i64 (pickK c n : Nat)) ∧ w' = w := by
  have hn0 : (1 : Int) ≤ (n : Int) := by omega
  have hr : ∀ x : Int, 0 ≤ x → (((x % (n : Int)).toNat : Nat) : Int) = x % (n : Int) := fun x hx => Int.toNat_of_nonneg (Int.emod_nonneg x (by omega))
  have HR := hide hr
  clear hr
  by_cases h : c < 0
  · have HX : Hid (((pickK c n : Nat) : Int) = -(c + 1) % (n : Int)) := hide (by unfold pickK; rw [if_pos h]; exact HR.out _ (by omega))
    go_enter Try.func22, Try.ntmps22
    go_wp2_with fail
    go_ret
    refine ⟨?_, rfl⟩
    have e : -((c + 1).tmod (n : Int)) = -(c + 1) % (n : Int) := by rw [← Int.neg_tmod, Int.tmod_eq_emod_of_nonneg (by omega)]
    rw [HX.out, ← e]
    rfl
  · have HX : Hid (((pickK c n : Nat) : Int) = c % (n : Int)) := hide (by unfold pickK; rw [if_neg h]; exact HR.out _ (by omega))
    have h0 : 0 ≤ c := by omega
    go_enter Try.func22, Try.ntmps22
    go_wp2_with fail
    go_ret
    exact ⟨by rw [HX.out]; rfl, rfl⟩
end Go.Proofs.Ytobgcaemnpkbmaa
namespace Go.Proofs.Ytobgcaemnpkbmaa
open Go.RowKit
def keyStep (ks : List Int) (c : Int) : List Int := if ks.contains (1 + (pickK c 40 : Int)) = true then ks else ks ++ [1 + (pickK c 40 : Int)]
def keysTo (l : Nat → Int) : Nat → List Int
  | 0 => []
  | i + 1 => keyStep (keysTo l i) (l i)
structure KeysOk (ks : List Int) : Prop where
  nodup : ks.Nodup
  low : ∀ k, k ∈ ks → 1 ≤ k ∧ k ≤ 40
theorem keysTo_ok (l : Nat → Int) : ∀ i, KeysOk (keysTo l i) ∧ (keysTo l i).length ≤ i
  | 0 => ⟨⟨List.Pairwise.nil, fun _ h => by simp [keysTo] at h⟩, Nat.le_refl _⟩
  | i + 1 => by
    obtain ⟨⟨h1, h2⟩, h3⟩ := keysTo_ok l i
    have hp := pickK_lt (l i) (n := 40) (by omega)
    rw [keysTo]
    unfold keyStep
    split
    · exact ⟨⟨h1, h2⟩, by omega⟩
    · next hc =>
      have hn : (1 + (pickK (l i) 40 : Int)) ∉ keysTo l i := by simpa using hc
      refine ⟨⟨?_, fun k hk => ?_⟩, by rw [List.length_append]; show _ + 1 ≤ _; omega⟩
      · rw [List.nodup_append]
        refine ⟨h1, by simp, fun a ha b hb e => ?_⟩
        rw [List.mem_singleton.1 hb] at e
        rw [e] at ha
        exact hn ha
      · rcases List.mem_append.1 hk with e | e
        · exact h2 k e
        · rw [List.mem_singleton.1 e]; omega
def kTree (ks : List Int) (i : Nat) : Nod := if i = 0 then ⟨0, ⟨#[117, 108]⟩, 0, none, 0, 0, ⟨#[]⟩, fun _ => ⟨#[]⟩, fun _ => ⟨#[]⟩⟩ else ⟨1, ⟨#[108, 105]⟩, ks.getD (i - 1) 0, none, 0, 0, ⟨#[]⟩, fun _ => ⟨#[]⟩, fun _ => ⟨#[]⟩⟩
theorem kTree_zero (ks : List Int) : kTree ks 0 = ⟨0, ⟨#[117, 108]⟩, 0, none, 0, 0, ⟨#[]⟩, fun _ => ⟨#[]⟩, fun _ => ⟨#[]⟩⟩ := rfl
theorem kTree_succ (ks : List Int) (i : Nat) : kTree ks (i + 1) = ⟨1, ⟨#[108, 105]⟩, ks.getD i 0, none, 0, 0, ⟨#[]⟩, fun _ => ⟨#[]⟩, fun _ => ⟨#[]⟩⟩ := rfl
theorem kTree_flat (ks : List Int) : Flat (kTree ks) (ks.length + 1) := by
  refine ⟨fun i h1 _ => ?_, fun i _ => ?_, fun i _ => ?_⟩
  · cases i with
    | zero => omega
    | succ i => rfl
  · cases i <;> rfl
  · cases i <;> rfl
theorem kTree_el {k : Int} (h : 0 ≤ k) : elB ⟨1, ⟨#[108, 105]⟩, k, none, 0, 0, ⟨#[]⟩, fun _ => ⟨#[]⟩, fun _ => ⟨#[]⟩⟩ = true := by
  unfold elB
  have h1 : decide (0 ≤ k) = true := by simpa using h
  simp only [h1, Bool.and_true, Bool.and_eq_true]
  decide +kernel
theorem kTree_may {ks : List Int} (h : KeysOk ks) : ∀ i, i < ks.length + 1 → mayB (kTree ks) i = true := fun i hi => by
  cases i with
  | zero =>
    unfold mayB
    rw [if_pos rfl, kTree_zero]
    decide +kernel
  | succ i =>
    have hkey : ∀ j, j < ks.length → 1 ≤ ks.getD j 0 := fun j hj => (h.low _ (getD_mem hj)).1
    have hg : ∀ j, j ≤ i → goBack (kTree ks) (i + 1) (j + 1) = true := by
      intro j
      induction j with
      | zero =>
        intro _
        rw [goBack_up (show (0 : Int) < 1 by decide), kTree_zero]
        decide +kernel
      | succ j ih =>
        intro hj
        rw [goBack_on (show ¬ (1 : Int) < 1 by decide) ?_]
        · exact ih (by omega)
        · rw [kTree_succ, kTree_succ]
          rintro ⟨_, _, e⟩
          have := nodup_inj h.nodup (show j < ks.length by omega) (show i < ks.length by omega) e
          omega
    unfold mayB
    rw [if_neg (by omega), hg i (Nat.le_refl _), kTree_succ, kTree_el (by have := hkey i (by omega); omega), Nat.add_sub_cancel]
    have hd : (kTree ks i).d = 0 ∨ (kTree ks i).d = 1 := by
      cases i with
      | zero => exact .inl rfl
      | succ i => exact .inr rfl
    have hdb : ∀ a : Int, a = 0 ∨ a = 1 → depthB a 1 = true := fun a ha => by rcases ha with e | e <;> rw [e] <;> rfl
    show (depthB (kTree ks i).d 1 && (true || _) && true) = true
    rw [hdb _ hd]
    rfl
end Go.Proofs.Ytobgcaemnpkbmaa
namespace Go.Proofs.Ytobgcaemnpkbmaa
open Go.RowKit
theorem cnt_zero {A : Nat → ByteArray × Int} {x : ByteArray × Int} : ∀ j, (∀ i, i < j → A i ≠ x) → cntP A x j = 0
  | 0, _ => rfl
  | j + 1, h => by rw [cntP, cnt_zero j fun i hi => h i (by omega), if_neg (h j (by omega))]
theorem pair_hit {A B : Nat → ByteArray × Int} {na nb : Nat} (hA : ∀ i j, i < na → j < na → A i = A j → i = j) (hB : ∀ i j, i < nb → j < nb → B i = B j → i = j) {j p : Nat} (hj : j < nb) (hp : p < na) (e : B j = A p) : pairAt A na B j = (p : Int) := by
  have h1 : cntP B (B j) j = 0 := cnt_zero j fun i hi e2 => by have := hB i j (by omega) hj e2; omega
  have h2 : cntP A (A p) p = 0 := cnt_zero p fun i hi e2 => by have := hA i p (by omega) hp e2; omega
  unfold pairAt
  have h3 := places_self A na p hp
  rw [h2] at h3
  rw [h1, e, h3]
  rfl
theorem pair_miss {A B : Nat → ByteArray × Int} {na : Nat} {j : Nat} (h : ∀ p, p < na → B j ≠ A p) : pairAt A na B j = -1 := by
  by_cases e : pairAt A na B j = -1
  · exact e
  · obtain ⟨p, _, h2, h3, _⟩ := pair_key (rfl : pairAt A na B j = _) e
    exact absurd h3 (h p h2)
end Go.Proofs.Ytobgcaemnpkbmaa
