/- He Iq Ir Ja Jb -/
import Derived.Test.YtobgcaemnpkbmaaKc47
import Derived.Test.YtobgcaemnpkbmaaKc45
namespace Go.Proofs.Ytobgcaemnpkbmaa
open Go.RowKit
structure TwoAt (w0 w : World) (d1 d2 : Nat) (R1 R2 : List RN) (l1 l2 : Int) (ρ1 ρ2 : Roles) (n1 n2 : Int → Nat) (m1 m2 q1 q2 : Nat) : Prop where
  one : DomAt ρ1 n1 m1 q1 d1 w R1 l1
  two : DomAt ρ2 n2 m2 q2 d2 w R2 l2
  a12 : Apart ρ1 ρ2
  a21 : Apart ρ2 ρ1
  o12 : ρ1 d2 = none
  o21 : ρ2 d1 = none
  bel : Below w0.heap.size w0 w
  b1 : ∀ b, (ρ1 b).isSome = true → w0.heap.size ≤ b
  b2 : ∀ b, (ρ2 b).isSome = true → w0.heap.size ≤ b
def Two (w0 w : World) (d1 d2 : Nat) (R1 R2 : List RN) (l1 l2 : Int) : Prop := ∃ ρ1 ρ2 n1 n2 m1 m2 q1 q2, TwoAt w0 w d1 d2 R1 R2 l1 l2 ρ1 ρ2 n1 n2 m1 m2 q1 q2
theorem Two.below {w0 w w' : World} {d1 d2 : Nat} {R1 R2 : List RN} {l1 l2 : Int} (h : Two w0 w d1 d2 R1 R2 l1 l2) (hb : Below w.heap.size w w') : Two w0 w' d1 d2 R1 R2 l1 l2 := by
  obtain ⟨ρ1, ρ2, n1, n2, m1, m2, q1, q2, h⟩ := h
  exact ⟨ρ1, ρ2, n1, n2, m1, m2, q1, q2, h.one.below hb, h.two.below hb, h.a12, h.a21, h.o12, h.o21, h.bel.trans (hb.mono h.bel.size), h.b1, h.b2⟩
theorem Two.bel {w0 w : World} {d1 d2 : Nat} {R1 R2 : List RN} {l1 l2 : Int} (h : Two w0 w d1 d2 R1 R2 l1 l2) : Below w0.heap.size w0 w := by
  obtain ⟨ρ1, ρ2, n1, n2, m1, m2, q1, q2, h⟩ := h
  exact h.bel
theorem below_wroteK {w0 w w' : World} {ρ ρ' : Roles} (hb : Below w0.heap.size w0 w) (h : Wrote ρ ρ' w w') (hl : ∀ b, (ρ b).isSome = true → w0.heap.size ≤ b) : Below w0.heap.size w0 w' :=
  hb.trans ⟨h.1.os, h.1.tape, h.1.output, h.1.size, fun b hlt => h.1.block b (Nat.lt_of_lt_of_le hlt hb.size) fun e => by have := hl b e; omega⟩
theorem wid_facts {R : List RN} {last : Int} (h : DocOk R last) {r : Nat} (hr : r < R.length) (hr1 : R[r].id = 1) : (widP R R.length r).length = (walkP R R.length r 0).length ∧ (widP R R.length r).getD 0 0 = 1 ∧ 0 < (widP R R.length r).length ∧ (widP R R.length r).length ≤ R.length ∧ (widP R R.length r).Nodup := by
  obtain ⟨rk, hU⟩ := h.up
  have e := widP_walk R R.length r 0
  have hl : (widP R R.length r).length = (walkP R R.length r 0).length := by rw [← e, List.length_map]
  have hw := walkK_few h hr 0
  have hc : ∃ l, widP R R.length r = 1 :: l := by
    cases hL : R.length with
    | zero => omega
    | succ f => exact ⟨_, by rw [widP, idAt_lt hr, hr1]⟩
  obtain ⟨l, hc⟩ := hc
  refine ⟨hl, by rw [hc]; rfl, by rw [hc]; simp, by omega, ?_⟩
  rw [← e]
  have hn := walk_nodup hU h.ids R.length r 0 (fitP_all hU hr)
  unfold List.Nodup at hn ⊢
  rw [List.pairwise_map] at hn ⊢
  refine hn.imp_of_mem fun {x y} hx hy hne e => hne ?_
  have h1 := (walk_up h.ids _ _ _ (fitP_all hU hr) x hx).1
  have h2 := (walk_up h.ids _ _ _ (fitP_all hU hr) y hy).1
  rw [idAt_lt h1, idAt_lt h2] at e
  exact h.ids.inj _ _ h1 h2 e
end Go.Proofs.Ytobgcaemnpkbmaa
namespace Go.Proofs.Ytobgcaemnpkbmaa
open Go.RowKit
theorem nodup_small : ∀ (l m : List Int), l.Nodup → (∀ a, a ∈ l → a ∈ m) → l.length ≤ m.length
  | [], _, _, _ => Nat.zero_le _
  | a :: l, m, hn, h => by
    obtain ⟨h1, h2⟩ := List.nodup_cons.1 hn
    have hm := h a (List.mem_cons_self ..)
    have := nodup_small l (m.erase a) h2 fun b hb => by
      have hne : b ≠ a := fun e => by rw [e] at hb; exact h1 hb
      exact (List.mem_erase_of_ne hne).2 (h b (List.mem_cons_of_mem _ hb))
    rw [List.length_erase_of_mem hm] at this
    have := List.length_pos_of_mem hm
    simp only [List.length_cons]
    omega
theorem tree_node {R : List RN} {L : Nat → Nod} : ∀ (f : Nat) (id : Int) (s n : Nat) (j : Int), PieceOk L s n → TreeAt R L f id s n → Dsc (niOf R) id j → ∃ i, i < n ∧ (niOf R j).tag = (L (s + i)).t ∧ (niOf R j).key = (L (s + i)).k ∧ (niOf R j).text = (L (s + i)).x ∧ (niOf R j).ats = atsOf (L (s + i))
  | 0, _, _, _, _, _, h, _ => h.elim
  | f + 1, id, s, n, j, hpc, ⟨h1, h2, h3, h4, h5, h6, h7⟩, hd => by
    rcases dsc_kid.1 hd with e | ⟨c, hc, hd⟩
    · rw [e]
      exact ⟨0, hpc.pos, h2, h3, h4, h5⟩
    · obtain ⟨k, hk, rfl⟩ := List.getElem_of_mem hc
      have hk' : k < (partsOf L s n).length := by omega
      have hm : (partsOf L s n)[k] ∈ partsOf L s n := List.getElem_mem hk'
      have eg : (partsOf L s n).getD k (0, 0) = (partsOf L s n)[k] := by rw [List.getD_eq_getElem?_getD, List.getElem?_eq_getElem hk']; rfl
      have ek : (niOf R id).kids.getD k 0 = (niOf R id).kids[k] := by rw [List.getD_eq_getElem?_getD, List.getElem?_eq_getElem hk]; rfl
      have ht := h7 k hk'
      rw [ek, eg] at ht
      obtain ⟨g1, g2, _⟩ := hpc.part hm
      obtain ⟨i, i1, i2⟩ := tree_node f _ _ _ j g1 ht hd
      refine ⟨(partsOf L s n)[k].1 + i, by omega, ?_⟩
      rw [← Nat.add_assoc]
      exact i2
theorem ni_none {R : List RN} {i : Int} (h : ¬ Has R i) : niOf R i = ⟨0, ⟨#[]⟩, ⟨#[]⟩, [], []⟩ := by
  unfold niOf
  have : R.find? (fun n => n.id == i) = none := by
    rw [List.find?_eq_none]
    intro n hn e
    exact h ⟨n, hn, by simpa using e⟩
  rw [this]
structure IsTree (R : List RN) (last : Int) (L : Nat → Nod) (n : Nat) : Prop where
  ok : DocOk R last
  fine : Fine R
  tree : TreeAt R L n 1 0 n
  all : ∀ j, Has R j → Dsc (niOf R) 1 j
  may : ∀ i, i < n → mayB L i = true
  pos : 0 < n
theorem IsTree.node {R : List RN} {last : Int} {L : Nat → Nod} {n : Nat} (h : IsTree R last L n) {j : Int} (hj : Has R j) : ∃ i, i < n ∧ (niOf R j).tag = (L i).t ∧ (niOf R j).key = (L i).k ∧ (niOf R j).text = (L i).x ∧ (niOf R j).ats = atsOf (L i) := by
  obtain ⟨i, h1, h2⟩ := tree_node n 1 0 n j (piece_of h.pos h.may) h.tree (h.all j hj)
  rw [Nat.zero_add] at h2
  exact ⟨i, h1, h2⟩
theorem IsTree.niFine {R : List RN} {last : Int} {L : Nat → Nod} {n : Nat} (h : IsTree R last L n) (j : Int) : NiFine (niOf R j) := by
  by_cases hj : Has R j
  · obtain ⟨i, hi, e1, e2, e3, e4⟩ := h.node hj
    have hn := may_node (h.may i hi)
    refine ⟨by rw [e4]; exact ats_rise hn, fun e => ?_, fun e => ?_⟩
    · rw [e1] at e
      rw [e3]
      rcases hn with hh | hh
      · exact (el_tag hh).2
      · rw [(tx_tag hh).1] at e; cases e
    · rw [e1] at e
      rw [e4]
      rcases hn with hh | hh
      · rw [(el_tag hh).1] at e; cases e
      · unfold atsOf; rw [(tx_tag hh).2.2]; rfl
  · rw [ni_none hj]
    exact ⟨List.Pairwise.nil, fun _ => rfl, fun _ => rfl⟩
theorem IsTree.ats {R : List RN} {last : Int} {L : Nat → Nod} {n : Nat} (h : IsTree R last L n) : ∀ m, m ∈ R → m.ats.length ≤ 5 := fun m hm => by
  obtain ⟨i, hi, _, _, _, e4⟩ := h.node ⟨m, hm, rfl⟩
  rw [niOf_mem h.ok.ids hm] at e4
  have e4 : m.ats = atsOf (L i) := e4
  rw [e4, atsOf_length]
  exact (el_attr (may_node (h.may i hi))).1
theorem IsTree.keys {R : List RN} {last : Int} {L : Nat → Nod} {n : Nat} (h : IsTree R last L n) (hk : ∀ i, i < n → I64 (L i).k) : Keys R := fun m hm => by
  obtain ⟨i, hi, _, e2, _, _⟩ := h.node ⟨m, hm, rfl⟩
  rw [niOf_mem h.ok.ids hm] at e2
  have e2 : m.key = (L i).k := e2
  rw [e2]
  exact hk i hi
theorem IsTree.tells {R : List RN} {last : Int} {L : Nat → Nod} {n : Nat} (h : IsTree R last L n) {r : Nat} (hr : r < R.length) (hr1 : R[r].id = 1) : TellsL R L (walkP R R.length r 0) 0 ∧ (walkP R R.length r 0).length = n ∧ (widP R R.length r).length = n ∧ R.length = n := by
  obtain ⟨rk, hU⟩ := h.ok.up
  have hI := h.ok.ids
  have hf := fitP_all hU hr
  have e : idAt R r = 1 := by rw [idAt_lt hr, hr1]
  have ht := tree_tells hI n R.length r 0 n (piece_of h.pos h.may) (by rw [e]; exact h.tree) hf
  rw [mayB_zero (h.may 0 h.pos)] at ht
  have hw : (widP R R.length r).length = n := by rw [(wid_facts h.ok hr hr1).1]; exact ht.2
  refine ⟨ht.1, ht.2, hw, ?_⟩
  have h1 := (wid_facts h.ok hr hr1).2.2.2.1
  have h2 := nodup_small (R.map (·.id)) (widP R R.length r) (by
    unfold List.Nodup
    rw [List.pairwise_map, List.pairwise_iff_getElem]
    intro i j hi hj hij e2
    have := hI.inj i j hi hj e2
    omega) fun a ha => by
    obtain ⟨m, hm, rfl⟩ := List.mem_map.1 ha
    have := (wid_dsc hI R.length r hf m.id).2
    rw [e] at this
    exact this (h.all _ ⟨m, hm, rfl⟩)
  rw [List.length_map] at h2
  omega
theorem made_is {L : Nat → Nod} {n : Nat} (hn : 0 < n) (hmay : ∀ i, i < n → mayB L i = true) : IsTree (madeR L n) n L n := by
  have hp := piece_of hn hmay
  have ht : TreeAt (madeR L n) L n 1 0 n := made_tree hmay n 0 n (Nat.le_refl _) hp ⟨by omega, fun h => by omega⟩
  refine ⟨made_ok hn hmay, made_fine hmay, ht, fun j hj => ?_, hmay, hn⟩
  have hok := made_ok hn hmay
  have hI := hok.ids
  obtain ⟨rk, hU⟩ := hok.up
  have hr : 0 < (madeR L n).length := by rw [madeR_length]; exact hn
  have hr1 : (madeR L n)[0].id = 1 := by rw [madeR_get]; rfl
  have hf := fitP_all hU hr
  have e : idAt (madeR L n) 0 = 1 := by rw [idAt_lt hr, hr1]
  have hl := (tree_tells hI n (madeR L n).length 0 0 n hp (by rw [e]; exact ht) hf).2
  rw [mayB_zero (hmay 0 hn)] at hl
  obtain ⟨w1, _, _, _, w5⟩ := wid_facts hok hr hr1
  by_cases hd : Dsc (niOf (madeR L n)) 1 j
  · exact hd
  · exfalso
    have hjm : j ∈ (madeR L n).map (·.id) := by
      obtain ⟨m, hm, e⟩ := hj
      exact List.mem_map.2 ⟨m, hm, e⟩
    have h2 := nodup_small (widP (madeR L n) (madeR L n).length 0) (((madeR L n).map (·.id)).erase j) w5 fun a ha => by
      have hd2 := (wid_dsc hI (madeR L n).length 0 hf a).1 ha
      rw [e] at hd2
      have hne : a ≠ j := fun e2 => by rw [e2] at hd2; exact hd hd2
      obtain ⟨m, hm, e3⟩ := dsc_has hI ⟨(madeR L n)[0], List.getElem_mem hr, hr1⟩ hd2
      exact (List.mem_erase_of_ne hne).2 (List.mem_map.2 ⟨m, hm, e3⟩)
    rw [List.length_erase_of_mem hjm, List.length_map, w1, hl] at h2
    have := madeR_length L n
    omega
theorem IsTree.diff {R : List RN} {last : Int} {L0 : Nat → Nod} {n0 : Nat} (h : IsTree R last L0 n0) (h04 : R.length ≤ 400) {L : Nat → Nod} {n : Nat} (hn : 0 < n) (hn4 : n ≤ 400) (hmay : ∀ i, i < n → mayB L i = true) (ht : (niOf R 1).tag = (L 0).t) (hk : (niOf R 1).key = (L 0).k) :
    ∃ R' last', RunL R last (diffP R last L n) R' last' ∧ IsTree R' last' L n ∧ last ≤ last' ∧ last' ≤ last + n := by
  have hsm := niOf_small (R := R) (by omega) h.ats
  obtain ⟨m, hm, e1, _⟩ := h.ok.root
  have hroot : Has R 1 := ⟨m, hm, e1⟩
  obtain ⟨R', r1, r2, r3, r4, r5⟩ := bring_s (L := L) h.niFine hsm n R last 1 (niOf R 1) 0 n h.ok h.fine (Nat.le_refl _) (piece_of hn hmay) hroot rfl (h.niFine 1) ht hk (by omega) (fun j _ _ => rfl)
  obtain ⟨d1, d2⟩ := r1.ok h.ok h.fine
  have hfew := bringP_few (L := L) hsm n 1 (niOf R 1) 0 n last (hsm 1).1 (hsm 1).2 hn (Nat.le_refl _) (fun i hi => by rw [Nat.zero_add]; exact (el_attr (may_node (hmay i hi))).1)
  refine ⟨R', _, r1, ⟨d1, d2, r2, fun j hj => ?_, hmay, hn⟩, hfew.2.1, by omega⟩
  rcases r4 j hj with ⟨e1, e2⟩ | e
  · exact absurd (h.all j e1) e2
  · exact e
end Go.Proofs.Ytobgcaemnpkbmaa
namespace Go.Proofs.Ytobgcaemnpkbmaa
open Go.RowKit
theorem runP_shift (X : Nat → Pat) : ∀ (k : Nat) (R : List RN) (l : Int), runP R l X (k + 1) = runP (didP R (X 0)) (lastP l (X 0)) (fun i => X (i + 1)) k
  | 0, _, _ => rfl
  | k + 1, R, l => by
    rw [runP, runP_shift X k R l]
    rfl
theorem runL_runs {R R' : List RN} {l l' : Int} {P : List Pat} (h : RunL R l P R' l') : RunsTo R l (patAt P) P.length ∧ runP R l (patAt P) P.length = (R', l') := by
  induction h with
  | nil R l => exact ⟨RunsTo.zero R l _, rfl⟩
  | @cons R R' l l' x P h1 h2 ih =>
    obtain ⟨i1, i2⟩ := ih
    have e : (fun i => patAt (x :: P) (i + 1)) = patAt P := rfl
    refine ⟨fun j hj => ?_, ?_⟩
    · cases j with
      | zero => exact h1
      | succ j =>
        rw [runP_shift]
        exact i1 j (by simpa using hj)
    · rw [List.length_cons, runP_shift]
      exact i2
theorem can_ok {R : List RN} {last : Int} {x : Pat} (h : DocOk R last) (hl : last ≤ 4611686018427387904) (hc : canP R last x = true) : x.Ok ∧ x.Ints := by
  have hlp := h.last_pos
  have hat : ∀ i, 0 ≤ atP R i → I64 i := fun i hi => by
    rcases at_two h.ids i with ⟨k, hk, e, _⟩ | ⟨_, e⟩
    · have h1 := h.ids.pos _ (List.getElem_mem hk)
      have h2 := h.top _ (List.getElem_mem hk)
      rw [e] at h1 h2
      exact ⟨by omega, by omega⟩
    · omega
  have z0 : I64 0 := ⟨by decide, by decide⟩
  have em : ∀ {s : ByteArray}, s.toList.isEmpty = true → s.size ≤ maxLen := fun {s} hs => by rw [empty_size hs]; exact Nat.zero_le _
  have tw : ∀ {s : ByteArray}, (s.size : Int) ≤ 20 → s.size ≤ maxLen := fun {s} hs => by unfold maxLen; omega
  have nm : ∀ {s : ByteArray}, nameB s = true → s.size ≤ maxLen := fun {s} hs => by have := name_size hs; unfold maxLen; omega
  unfold canP at hc
  split at hc
  · unfold createB at hc
    simp only [Bool.and_eq_true, beq_iff_eq, decide_eq_true_eq] at hc
    obtain ⟨⟨⟨⟨⟨c1, c2⟩, c3⟩, c4⟩, c5⟩, c6⟩ := hc
    unfold oneB at c1
    have hs := el_size (m := nodOf x.tag x.key x.text) (by simpa using c1)
    have h1 : x.tag.size ≤ 8 := hs.1
    have h2 : x.text.size ≤ 20 := hs.2
    exact ⟨⟨by unfold maxLen; omega, em c6, by unfold maxLen; omega⟩, ⟨⟨by omega, by omega⟩, by rw [c4]; exact z0, by rw [c5]; exact z0⟩⟩
  · simp only [Bool.and_eq_true, decide_eq_true_eq] at hc
    obtain ⟨⟨⟨c1, c2⟩, c3⟩, c4⟩ := hc
    split at c4
    · unfold insB at c4
      simp only [Bool.and_eq_true, decide_eq_true_eq, Bool.or_eq_true] at c4
      obtain ⟨⟨⟨⟨⟨⟨d1, d2⟩, d3⟩, d4⟩, d5⟩, d6⟩, d7⟩ := c4
      refine ⟨⟨em c3, em d1, em d2⟩, ⟨hat _ c1, hat _ d4, ?_⟩⟩
      rcases d6 with e | e
      · have : x.bef = 0 := by simpa using e
        rw [this]; exact z0
      · exact hat _ e.1.1
    · simp only [Bool.and_eq_true] at c4
      obtain ⟨⟨d1, d2⟩, d3⟩ := c4
      have e1 : x.par = 0 := by simpa using d1
      have e2 : x.bef = 0 := by simpa using d2
      have hi : x.Ints := ⟨hat _ c1, by rw [e1]; exact z0, by rw [e2]; exact z0⟩
      split at d3
      · unfold remB at d3
        simp only [Bool.and_eq_true] at d3
        exact ⟨⟨em c3, em d3.1.1, em d3.1.2⟩, hi⟩
      · split at d3
        · unfold wriB at d3
          simp only [Bool.and_eq_true, decide_eq_true_eq] at d3
          exact ⟨⟨em c3, em d3.1.1, tw d3.1.2⟩, hi⟩
        · split at d3
          · unfold setB at d3
            simp only [Bool.and_eq_true, decide_eq_true_eq] at d3
            exact ⟨⟨em c3, nm d3.1.1.1, tw d3.1.2⟩, hi⟩
          · split at d3
            · unfold unsB at d3
              simp only [Bool.and_eq_true, decide_eq_true_eq] at d3
              exact ⟨⟨em c3, nm d3.1.1.1.1, em d3.2⟩, hi⟩
            · cases d3
theorem runs_ok {R : List RN} {last : Int} (h : DocOk R last) (hF : Fine R) {X : Nat → Pat} {n : Nat} (hr : RunsTo R last X n) (hl : last + n ≤ 4611686018427387904) : ∀ i, i < n → (X i).Ok ∧ (X i).Ints := fun i hi => by
  obtain ⟨d1, _, d3⟩ := RunsTo.ok h hF (k := i) fun j hj => hr j (by omega)
  exact can_ok d1 (by omega) (hr i hi)
end Go.Proofs.Ytobgcaemnpkbmaa
namespace Go.Proofs.Ytobgcaemnpkbmaa
open Go.RowKit
theorem bcheck_any (ao : Option Addr) (n c : Nat) (L : Nat → Nod) (w : World) (hn : n ≤ maxLen) (h : ListAt w ao n L) :
    Calls Try.prog 7 #[.slice ao n c] w fun e w' => e = .returned (.tuple #[.int .i64 (checkOut (mayB L) n).1, .int .i64 (checkOut (mayB L) n).2]) ∧ Below w.heap.size w w' := by
  have H := hide h
  clear h
  go_enter Try.func7, Try.ntmps7
  go_wp2_with (go_at_call 23; refine (treeCheck_any ao n c L _ hn (unhide H)).mono ?_; rintro e w2 ⟨rfl, hb2⟩)
  refine bodyPost_ret (results_tmp2 rfl _ _ _) rfl ?_
  exact ⟨rfl, hb2⟩
structure StAt (W w : World) (db : Nat) (L : Nat → Nod) (n : Nat) (R : List RN) (last : Int) (ρ : Roles) (nb : Int → Nat) (mb q : Nat) : Prop where
  dom : DomAt ρ nb mb q db w R last
  tree : IsTree R last L n
  few : n ≤ 400
  keys : ∀ i, i < n → I64 (L i).k
  bel : Below W.heap.size W w
  new : ∀ b, (ρ b).isSome = true → W.heap.size ≤ b
def St (W w : World) (db : Nat) (L : Nat → Nod) (n : Nat) (R : List RN) (last : Int) : Prop := ∃ ρ nb mb q, StAt W w db L n R last ρ nb mb q
theorem St.below {W w w' : World} {db : Nat} {L : Nat → Nod} {n : Nat} {R : List RN} {last : Int} (h : St W w db L n R last) (hb : Below w.heap.size w w') : St W w' db L n R last := by
  obtain ⟨ρ, nb, mb, q, h⟩ := h
  exact ⟨ρ, nb, mb, q, h.dom.below hb, h.tree, h.few, h.keys, h.bel.trans (hb.mono h.bel.size), h.new⟩
theorem St.bel {W w : World} {db : Nat} {L : Nat → Nod} {n : Nat} {R : List RN} {last : Int} (h : St W w db L n R last) : Below W.heap.size W w := by
  obtain ⟨ρ, nb, mb, q, h⟩ := h
  exact h.bel
theorem St.len {W w : World} {db : Nat} {L : Nat → Nod} {n : Nat} {R : List RN} {last : Int} (h : St W w db L n R last) : R.length = n ∧ n ≤ 400 ∧ IsTree R last L n := by
  obtain ⟨ρ, nb, mb, q, h⟩ := h
  obtain ⟨r, hr, hr1, _⟩ := root_at h.tree.ok
  exact ⟨(h.tree.tells hr hr1).2.2.2, h.few, h.tree⟩
theorem IsTree.root {R : List RN} {last : Int} {L : Nat → Nod} {n : Nat} (h : IsTree R last L n) : (niOf R 1).tag = (L 0).t ∧ (niOf R 1).key = (L 0).k := by
  have ht := h.tree
  have hp := h.pos
  match n, ht, hp with
  | n + 1, ⟨_, h2, h3, _⟩, _ => exact ⟨h2, h3⟩
theorem st_new (W w : World) (hb : Below W.heap.size W w) (b o n c : Nat) (L : Nat → Nod) (hn : n ≤ maxLen) (H : ListAt W (some ⟨b, o, none⟩) n L) (hz : (checkOut (mayB L) n).1 = 0) (hk : ∀ i, i < n → I64 (L i).k) :
    Calls Try.prog 14 #[.slice (some ⟨b, o, none⟩) n c] w fun e w' => ∃ db, e = .returned (.tuple #[.pointer (some ⟨db, 0, none⟩), .int .i64 0, .int .i64 0]) ∧ St W w' db L n (madeR L n) n := by
  obtain ⟨_, hn0, hn4, hmay⟩ := check_none hz
  refine (dnew_ok b o n c L w hn (H.below hb) hz).mono ?_
  rintro e w' ⟨ρ, nb, mb, q, db, h1, h2, h3, h4, h5⟩
  exact ⟨db, h1, ρ, nb, mb, q, h4, made_is hn0 hmay, hn4, hk, hb.trans (h5.mono hb.size), fun b e => Nat.le_trans hb.size (h3 b e)⟩
theorem st_diff (W w : World) (db : Nat) (L0 : Nat → Nod) (n0 : Nat) (R : List RN) (last : Int) (h : St W w db L0 n0 R last) (hl : last + 400 ≤ 4611686018427387904) (ao : Option Addr) (n c : Nat) (L : Nat → Nod) (hn : n ≤ maxLen) (hc : n ≤ c) (hL : ListAt W ao n L) (hk : ∀ i, i < n → I64 (L i).k) (P : List Pat) (no at' : Int) (hE : diffE R L n = (no, at')) (hP : (if no = 0 then diffP R last L n else []) = P) :
    Calls Try.prog 20 #[.pointer (some ⟨db, 0, none⟩), .slice ao n c] w fun e w' => ∃ pa pc, e = .returned (.tuple #[.slice pa P.length pc, .int .i64 no, .int .i64 at']) ∧ w'.ownsRow w.heap.size 43 8 (.slice pa P.length pc) P.length (patsL P) ∧ Below w.heap.size w w' := by
  obtain ⟨ρ, nb, mb, q, h⟩ := h
  have hLw : ListAt w ao n L := fun h0 => by
    obtain ⟨b, o, e, hp⟩ := hL h0
    exact ⟨b, o, e, hp.below h.bel⟩
  refine (ddiff ρ nb mb q db w R last h.dom (h.tree.keys h.keys) hl ao n c L hn hc hLw hk).mono ?_
  rintro e w' ⟨v, x, y, rfl, rfl, rfl, h1, h2⟩
  rw [hE] at h1 ⊢
  simp only [hP] at h1
  obtain ⟨pa, pc, rfl⟩ := own_shape h1
  exact ⟨pa, pc, rfl, h1, h2⟩
theorem st_apply (W w0 w : World) (db : Nat) (L0 : Nat → Nod) (n0 : Nat) (R : List RN) (last : Int) (h : St W w0 db L0 n0 R last) (hb : Below w0.heap.size w0 w) (hl : last + 500000 ≤ 4611686018427387904) (L : Nat → Nod) (n : Nat) (hn : 0 < n) (hn4 : n ≤ 400) (hmay : ∀ i, i < n → mayB L i = true) (hk : ∀ i, i < n → I64 (L i).k) (ht : (niOf R 1).tag = (L 0).t) (hy : (niOf R 1).key = (L 0).k) (pa : Option Addr) (pc : Nat) (hrow : w.ownsRow w0.heap.size 43 8 (.slice pa (diffP R last L n).length pc) (diffP R last L n).length (patsL (diffP R last L n))) :
    Calls Try.prog 15 #[.pointer (some ⟨db, 0, none⟩), .slice pa (diffP R last L n).length pc] w fun e w' => e = .returned (.tuple #[.int .i64 0, .int .i64 0]) ∧ ∃ R' last', St W w' db L n R' last' ∧ last' ≤ last + 400 := by
  have hlen := h.len
  obtain ⟨ρ, nb, mb, q, h⟩ := h
  obtain ⟨R', last', r1, r2, r3, r4⟩ := h.tree.diff (by omega) hn hn4 hmay ht hy
  obtain ⟨e1, e2⟩ := runL_runs r1
  have hsm := niOf_small (R := R) (by omega) h.tree.ats
  have hPl := (bringP_few (L := L) hsm n 1 (niOf R 1) 0 n last (hsm 1).1 (hsm 1).2 hn (Nat.le_refl _) (fun i hi => by rw [Nat.zero_add]; exact (el_attr (may_node (hmay i hi))).1)).1
  have hPl : (diffP R last L n).length + 2 ≤ 1020 * n := hPl
  have hD := h.dom.below hb
  refine (dapply ρ nb mb q db w R last hD pa _ pc (patAt (diffP R last L n)) (by omega) (by omega) (pats_row hrow rfl) (fun h0 a ea => ?_) (runs_ok h.tree.ok h.tree.fine e1 (by omega))).mono ?_
  · cases e : ρ a.block with
    | none => rfl
    | some v =>
      have := h.dom.dom.low a.block (by rw [e]; rfl)
      have := (hrow.lt a.block (by rw [ea]; rfl)).1
      omega
  · rintro e w' ⟨x, y, rfl, k, hk', hr, ⟨nb', ρ', hw, hd⟩, hout⟩
    rcases hout with ⟨rfl, rfl, rfl⟩ | ⟨h1, h2, _⟩
    · rw [e2] at hd
      refine ⟨rfl, R', last', ⟨ρ', nb', mb, q, hd, r2, hn4, hk, ?_, fun b e => ?_⟩, by omega⟩
      · exact below_wroteK (h.bel.trans (hb.mono h.bel.size)) hw h.new
      · rcases hw.2.2 b e with e3 | e3
        · exact h.new b e3
        · exact Nat.le_trans (Nat.le_trans h.bel.size hb.size) e3
    · rw [e1 k h1] at h2
      cases h2
theorem st_tree (W w : World) (db : Nat) (L : Nat → Nod) (n : Nat) (R : List RN) (last : Int) (h : St W w db L n R last) :
    Calls Try.prog 18 #[.pointer (some ⟨db, 0, none⟩)] w fun e w' => ∃ ao c N, e = .returned (.slice ao n c) ∧ ListAt w' ao n (nodsK N) ∧ (∀ i, i < n → (nodsK N i).d = (L i).d ∧ (nodsK N i).t = (L i).t ∧ (nodsK N i).k = (L i).k ∧ (nodsK N i).x = (L i).x ∧ (nodsK N i).an = (L i).an ∧ ∀ j, j < (L i).an → (nodsK N i).nm j = (L i).nm j ∧ (nodsK N i).vl j = (L i).vl j) ∧ Below w.heap.size w w' := by
  obtain ⟨ρ, nb, mb, q, h⟩ := h
  obtain ⟨r, hr, hr1, _⟩ := root_at h.tree.ok
  obtain ⟨t1, t2, t3, t4⟩ := h.tree.tells hr hr1
  have hfew := h.few
  refine (dtree ρ nb mb q db w R last h.dom r hr hr1).mono ?_
  rintro e w' ⟨v, rfl, N, hT, hL, hb⟩
  have hN : N.length = n := hL.1.trans t2
  obtain ⟨ao, c, rfl⟩ := own_shape hT.row
  have hl := hT.listK rfl (by omega) (tellK_few hL h.tree.ats)
  rw [hN] at hl ⊢
  refine ⟨ao, c, N, rfl, hl, fun i hi => ?_, hb⟩
  have hiN : i < N.length := by omega
  have hiW : i < (walkP R R.length r 0).length := by omega
  obtain ⟨p1, p2, p3, p4, p5, p6⟩ := hL.2 i hiW hiN
  have hq := t1.get i hiW
  rw [Nat.zero_add] at hq
  have hnth := nth_lt p1
  have g1 := hq.tag
  have g2 := hq.key
  have g3 := hq.text
  have g4 := hq.ats
  rw [hnth] at g1 g2 g3 g4
  have hA := (hT.node _ (List.getElem_mem hiN)).an
  have hats : N[i].ats = atsOf (L i) := p6.trans g4
  rw [nodsK_lt hiN]
  refine ⟨p2.trans hq.d, p3.trans g1, p4.trans g2, p5.trans g3, ?_, fun j hj => ?_⟩
  · show N[i].an = (L i).an
    rw [hA, hats, atsOf_length]
  · have hjl : j < N[i].ats.length := by rw [hats, atsOf_length]; exact hj
    obtain ⟨k1, k2⟩ := nm_get hjl
    have e : N[i].ats[j] = ((L i).nm j, (L i).vl j) := by
      simp only [hats, atsOf, List.getElem_map, List.getElem_range]
    refine ⟨?_, ?_⟩
    · show nmOf N[i].ats j = _
      rw [k1, e]
    · show vlOf N[i].ats j = _
      rw [k2, e]
theorem st_ids (W w : World) (db : Nat) (L : Nat → Nod) (n : Nat) (R : List RN) (last : Int) (h : St W w db L n R last) :
    Calls Try.prog 16 #[.pointer (some ⟨db, 0, none⟩)] w fun e w' => ∃ ao c, e = .returned (.slice ao n c) ∧ Below w.heap.size w w' := by
  obtain ⟨ρ, nb, mb, q, h⟩ := h
  obtain ⟨r, hr, hr1, _⟩ := root_at h.tree.ok
  have ht := (h.tree.tells hr hr1).2.2.1
  refine (dids ρ nb mb q db w R last h.dom r hr hr1).mono ?_
  rintro e w' ⟨v, rfl, hrow, hb⟩
  obtain ⟨ao, c, rfl⟩ := own_shape hrow
  rw [ht]
  exact ⟨ao, c, rfl, hb⟩
theorem st_loose (W w : World) (db : Nat) (L : Nat → Nod) (n : Nat) (R : List RN) (last : Int) (h : St W w db L n R last) :
    Calls Try.prog 19 #[.pointer (some ⟨db, 0, none⟩)] w fun e w' => e = .returned (.int .i64 0) ∧ Below w.heap.size w w' := by
  obtain ⟨ρ, nb, mb, q, h⟩ := h
  obtain ⟨r, hr, hr1, _⟩ := root_at h.tree.ok
  obtain ⟨_, _, t3, t4⟩ := h.tree.tells hr hr1
  refine (dloose ρ nb mb q db w R last h.dom r hr hr1).mono ?_
  rintro e w' ⟨v, rfl, rfl, hb⟩
  refine ⟨?_, hb⟩
  rw [t3, t4, Int.sub_self]
theorem diff_same {R : List RN} {last : Int} {L : Nat → Nod} {n : Nat} (h : IsTree R last L n) (hR : R.length = n) (hn4 : n ≤ 400) : diffE R L n = (0, 0) ∧ diffP R last L n = [] := by
  obtain ⟨e1, e2⟩ := h.root
  have hz : checkOut (mayB L) n = (0, 0) := by
    have hp := h.pos
    unfold checkOut
    rw [if_neg (by omega)]
    unfold search
    have : (List.range n).find? (fun i => !mayB L i) = none := by
      rw [List.find?_eq_none]
      intro i hi
      rw [h.may i (List.mem_range.1 hi)]
      simp
    rw [this]
  refine ⟨?_, ?_⟩
  · unfold diffE
    rw [hz, if_pos rfl, e1, e2]
    simp
    omega
  · unfold diffP
    rw [bring_none n 1 0 n h.tree]
end Go.Proofs.Ytobgcaemnpkbmaa
namespace Go.Proofs.Ytobgcaemnpkbmaa
open Go.RowKit
structure TreesAt (w : World) (so : Option Addr) (N : Nat) (ao : Nat → Option Addr) (nn cc : Nat → Nat) (Ls : Nat → Nat → Nod) : Prop where
  at' : 0 < N → ∃ b o, so = some ⟨b, o, none⟩ ∧ b < w.heap.size ∧ ∀ j, j < N → w.cell? ⟨b, o + j, none⟩ = some (.slice (ao j) (nn j) (cc j))
  lst : ∀ j, j < N → ListAt w (ao j) (nn j) (Ls j) ∧ nn j ≤ maxLen ∧ nn j ≤ cc j ∧ ∀ i, i < nn j → I64 (Ls j i).k
theorem diff_ways {R : List RN} {last : Int} {L0 : Nat → Nod} {n0 : Nat} (h : IsTree R last L0 n0) (hR : R.length ≤ 400) (L : Nat → Nod) (n : Nat) :
    ((checkOut (mayB L) n).1 ≠ 0 ∧ diffE R L n = checkOut (mayB L) n) ∨ ((checkOut (mayB L) n).1 = 0 ∧ (((L 0).t.toList == (L0 0).t.toList) && ((L 0).k == (L0 0).k)) = false ∧ diffE R L n = (3, 0)) ∨ ((checkOut (mayB L) n).1 = 0 ∧ (L 0).t = (L0 0).t ∧ (L 0).k = (L0 0).k ∧ diffE R L n = (0, 0)) := by
  obtain ⟨e1, e2⟩ := h.root
  by_cases hz : (checkOut (mayB L) n).1 = 0
  · right
    obtain ⟨_, hn0, hn4, _⟩ := check_none hz
    have hE : diffE R L n = if ((L 0).t.toList == (L0 0).t.toList) && ((L 0).k == (L0 0).k) then if 800 < R.length + n then (1, 0) else (0, 0) else (3, 0) := by unfold diffE; rw [if_pos hz, e1, e2]
    cases hq : (((L 0).t.toList == (L0 0).t.toList) && ((L 0).k == (L0 0).k)) with
    | false => left; refine ⟨hz, rfl, ?_⟩; rw [hE, hq]; rfl
    | true =>
      right
      rw [hq] at hE
      simp only [Bool.and_eq_true, beq_iff_eq] at hq
      refine ⟨hz, bytes_ext hq.1, hq.2, ?_⟩
      rw [hE, if_pos rfl, if_neg (by omega)]
  · left
    refine ⟨hz, ?_⟩
    unfold diffE
    rw [if_neg hz]
set_option maxHeartbeats 2000000 in
set_option maxRecDepth 100000 in
theorem steps_none (so : Option Addr) (c : Nat) (w : World) :
    Calls Try.prog 5 #[.slice so 0 c] w fun e w' => e = .returned (.bool true) ∧ Below w.heap.size w w' := by
  have HK := hide (known_any w)
  go_enter Try.func5, Try.ntmps5
  go_wp2_with (first | (go_at_call 13; refine (unhide HK).mono ?_; rintro e w1 ⟨rfl, hb1⟩))
  go_ret
  exact ⟨rfl, hb1⟩
set_option maxHeartbeats 2000000 in
set_option maxRecDepth 100000 in
theorem steps_bad (b o N c : Nat) (hN : 0 < N) (ao : Option Addr) (n c0 : Nat) (L : Nat → Nod) (w : World) (x0 : w.cell? ⟨b, o, none⟩ = some (.slice ao n c0)) (hn : n ≤ maxLen) (hL : ListAt w ao n L) (hz : (checkOut (mayB L) n).1 ≠ 0) :
    Calls Try.prog 5 #[.slice (some ⟨b, o, none⟩) N c] w fun e w' => e = .returned (.bool true) ∧ Below w.heap.size w w' := by
  have HK := hide (known_any w)
  have HN : Hid (∀ w1, Below w.heap.size w w1 → Calls Try.prog 14 #[.slice ao n c0] w1 fun e w' => e = .returned (.tuple #[.pointer none, .int .i64 (checkOut (mayB L) n).1, .int .i64 (checkOut (mayB L) n).2]) ∧ Below w.heap.size w w') := hide fun w1 hb => (dnew_bad ao n c0 L w1 hn (hL.below hb) hz).mono fun _ _ ⟨h1, h2⟩ => ⟨h1, hb.trans (h2.mono hb.size)⟩
  have HC : Hid (∀ w1, Below w.heap.size w w1 → Calls Try.prog 7 #[.slice ao n c0] w1 fun e w' => e = .returned (.tuple #[.int .i64 (checkOut (mayB L) n).1, .int .i64 (checkOut (mayB L) n).2]) ∧ Below w.heap.size w w') := hide fun w1 hb => (bcheck_any ao n c0 L w1 hn (hL.below hb)).mono fun _ _ ⟨h1, h2⟩ => ⟨h1, hb.trans (h2.mono hb.size)⟩
  generalize (checkOut (mayB L) n).2 = at' at *
  generalize (checkOut (mayB L) n).1 = no at *
  have hne : (no == 0) = false := beq_eq_false_iff_ne.2 hz
  have lb := World.block_lt_of_cell? _ _ x0
  clear hL hn hz
  go_enter Try.func5, Try.ntmps5
  go_wp2_with (first | (go_at_call 13; refine (unhide HK).mono ?_; rintro e w1 ⟨rfl, hb1⟩; have y1 := (hb1.cell (p := ⟨b, o, none⟩) lb).trans x0; have l1 := Nat.lt_of_lt_of_le lb hb1.size; have HB := hide hb1; clear hb1) | (go_at_call 14; refine (unhide HN _ HB.out).mono ?_; clear HB y1 l1; rintro e w2 ⟨rfl, hb2⟩; have y1 := (hb2.cell (p := ⟨b, o, none⟩) lb).trans x0; have l1 := Nat.lt_of_lt_of_le lb hb2.size; have HB := hide hb2; clear hb2) | (go_at_call 7; refine (unhide HC _ HB.out).mono ?_; clear HB y1 l1; rintro e w3 ⟨rfl, hb3⟩; have HB := hide hb3; clear hb3))
  go_ret
  exact ⟨rfl, HB.out⟩
end Go.Proofs.Ytobgcaemnpkbmaa
