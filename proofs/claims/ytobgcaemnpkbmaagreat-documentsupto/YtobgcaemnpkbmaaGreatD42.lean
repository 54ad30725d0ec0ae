/- La Lj Lp -/
import Derived.Test.YtobgcaemnpkbmaaGreatD41
import Derived.Test.YtobgcaemnpkbmaaGreatD37
namespace Go.Proofs.YtobgcaemnpkbmaaGreat
open Go.RowKit
theorem atP_root {R : List RN} {last : Int} (h : DocOk R last) : ∃ r, ∃ hr : r < R.length, R[r].id = 1 ∧ atP R 1 = (r : Int) := by
  obtain ⟨n, hn, h1, _⟩ := h.root
  rcases at_two h.ids 1 with e | ⟨e, _⟩
  · exact e
  · exact absurd h1 (e n hn)
theorem bare_len {R R' : List RN} (e : bareL R' = bareL R) : R'.length = R.length := by have := congrArg List.length e; rwa [bareL_length, bareL_length] at this
theorem bare_at {R R' : List RN} (e : bareL R' = bareL R) (i : Int) : atP R' i = atP R i := by rw [← bare_atP R', e, bare_atP]
theorem bare_walk {R R' : List RN} (e : bareL R' = bareL R) (f a : Nat) (d : Int) : walkP R' f a d = walkP R f a d := by rw [← bare_walkP R', e, bare_walkP]
theorem bare_idat {R R' : List RN} (e : bareL R' = bareL R) (i : Nat) : idAt R' i = idAt R i := by rw [← bare_idAt R', e, bare_idAt]
theorem walk_few {R : List RN} {last : Int} (h : DocOk R last) {r : Nat} (hr : r < R.length) (d : Int) : (walkP R R.length r d).length ≤ R.length := by
  obtain ⟨rk, hU⟩ := h.up
  exact walk_length hU h.ids (fitP_all hU hr)
theorem LawOk.lists {W0 : World} {own : Owns} {w : World} {wb : Nat} {Ps : List PD} {m : Nat} {k : Int} (h : LawOk W0 own w wb Ps m k) :
    ∃ vA EA v E, w.cell? ⟨wb, 1 + 1, none⟩ = some vA ∧ w.frozen? ⟨wb, 1 + 1, none⟩ = false ∧ AttsBk (fun b => own b = some (0, 2)) w vA EA ∧ w.cell? ⟨wb, 1 + 2, none⟩ = some v ∧ w.frozen? ⟨wb, 1 + 2, none⟩ = false ∧ NodsBk (fun b => own b = some (0, 2)) w v E ∧
      EA.length % 4 = 0 ∧ EA.length ≤ 20 * m ∧ E.length % 4 = 0 ∧ E.length ≤ 20 * m ∧ (∀ b, vA.ownBlock = some b → own b = some (0, 4)) ∧ (∀ b, v.ownBlock = some b → own b = some (0, 5)) := by
  obtain ⟨vA, EA, a1, a2, a3, a4, a5, a6⟩ := h.book.atts
  obtain ⟨v, E, b1, b2, b3, b4, b5, b6⟩ := h.book.nods
  exact ⟨vA, EA, v, E, a1, a2, ⟨a3.row, a3.each, fun b e e2 => by rw [a6 b e] at e2; simp at e2⟩, b1, b2, ⟨b3.row, b3.each, fun b e e2 => by rw [b6 b e] at e2; simp at e2⟩, a4, a5, b4, b5, a6, b6⟩
theorem keepNodes_law (W0 : World) (own : Owns) (w w' : World) (wb : Nat) (Ps : List PD) (m : Nat) (k : Int) (h : LawOk W0 own w wb Ps m k) (hm : m ≤ 400000000) (hb : Below w.heap.size w w') {l : Value} {N : List TN} (hl : TellAt w.heap.size w' l N) (hN : N.length ≤ 1000000) (hfew : ∀ n, n ∈ N → n.ats.length ≤ 5) :
    Calls Tryz.prog 28 #[.pointer (some ⟨wb, 1, none⟩), l] w' fun e w2 => e = .returned (.tuple #[]) ∧ ∃ own', LawOk W0 own' w2 wb Ps (m + 1) k := by
  have h' := h.below (Nat.le_refl m) (Int.le_refl k) hb
  obtain ⟨vA, EA, v, E, a1, a2, a3, b1, b2, b3, a4, a5, b4, b5, a6, b6⟩ := h'.lists
  have hlow : ∀ b, (own b).isSome = true → b < w.heap.size := fun b e => (h.low b e).2
  have hwb : wb < w.heap.size := hlow wb (by rw [h.wo]; rfl)
  have hne : ∀ b j, own b = some (0, 3 + j) → b ≠ wb := fun b j e e2 => by rw [e2, h.wo] at e; simp at e; omega
  refine (keepNodes_any (fun b => own b = some (0, 2)) w.heap.size wb 1 vA v EA E l N w' (by omega) a4 (by omega) b4 hb.size (fun b e => hlow b (by rw [e]; rfl)) (by omega) hfew hwb (fun e => by rw [h.wo] at e; simp at e) (fun b e => ⟨hlow b (by rw [a6 b e]; rfl), hne b 1 (a6 b e)⟩) (fun b e => ⟨hlow b (by rw [b6 b e]; rfl), hne b 2 (b6 b e), fun e2 => by have h1 := a6 b e2; rw [b6 b e] at h1; simp at h1⟩) a1 a2 a3 b1 b2 b3 hl).mono ?_
  rintro e w2 ⟨rfl, hp⟩
  exact ⟨rfl, h'.keptNodes hlow h.base.size hb.size a6 b6 a5 b5 b4 hp⟩
theorem keepNumbers_law (W0 : World) (own : Owns) (w w' : World) (wb : Nat) (Ps : List PD) (m : Nat) (k : Int) (h : LawOk W0 own w wb Ps m k) (hm : m ≤ 400000000) (hb : Below w.heap.size w w') {l : Value} {n : Nat} {xs : List Value} (hl : w'.ownsRow w.heap.size 3 1 l n xs) (hn : n ≤ 1000000) :
    Calls Tryz.prog 31 #[.pointer (some ⟨wb, 1, none⟩), l] w' fun e w2 => e = .returned (.tuple #[]) ∧ ∃ own', LawOk W0 own' w2 wb Ps (m + 1) k := by
  have h' := h.below (Nat.le_refl m) (Int.le_refl k) hb
  obtain ⟨v, E, a1, a2, a3, a4, a5, a6⟩ := h'.book.nums
  have hlow : ∀ b, (own b).isSome = true → b < w.heap.size := fun b e => (h.low b e).2
  have hwb : wb < w.heap.size := hlow wb (by rw [h.wo]; rfl)
  have hlb : ∀ b, l.ownBlock = some b → w.heap.size ≤ b ∧ b < w'.heap.size := fun b e => hl.lt b e
  have hnone : ∀ b, l.ownBlock = some b → own b = none := fun b e => by
    cases ho : own b with
    | none => rfl
    | some x => have := hlow b (by rw [ho]; rfl); have := (hlb b e).1; omega
  refine (keepNumbers_any (fun b => own b = some (0, 2)) wb 1 v E l n xs w' (by omega) a4 (fun b e => Nat.lt_of_lt_of_le (hlow b (by rw [e]; rfl)) hb.size) (by omega) a1 a2 ⟨a3.row, a3.each, fun b e e2 => by rw [a6 b e] at e2; simp at e2⟩ (own_zero hl) (fun e => by rw [h.wo] at e; simp at e) (fun e => by have := a6 wb e.symm; rw [h.wo] at this; simp at this) (fun e => by have := (hlb wb e.symm).1; omega) ?_ (fun b e e2 => by rw [hnone b e] at e2; cases e2)).mono ?_
  · cases hx : l.ownBlock with
    | none => exact .inl rfl
    | some b => exact .inr fun e => by have := a6 b e.symm; rw [hnone b hx] at this; cases this
  · rintro e w2 ⟨rfl, ht, v', E', c1, c2, c3, c4, c5, c6⟩
    obtain ⟨own', hown⟩ := h'.keptOne 0 (ty := 69) (pat := fun i => numPat (numMark i)) (size := 1) (v := v) (E := E) (l := l) a6 (fun b e => ⟨hnone b e, Nat.le_trans h.base.size (hlb b e).1, (hlb b e).2⟩) a5 a4 ⟨ht, v', E', c1, c2, c3, c4, c5, ⟨c6.row, c6.each⟩, c6.apart⟩
    refine ⟨rfl, own', hown fun hbk hk hoth => ⟨hk, hoth 1 (by omega) hbk.atts, hoth 2 (by omega) hbk.nods, hoth 3 (by omega) hbk.pats, hoth 4 (by omega) hbk.evts, hoth 5 (by omega) hbk.coms⟩⟩
theorem pair_tree {own : Owns} {i : Nat} {w : World} {D : PD} (h : PairOk own i w D) {r : Nat} (hr : r < D.R.length) (hr1 : D.R[r].id = 1) :
    Calls Tryz.prog 25 #[.pointer (some ⟨D.db, 0, none⟩)] w fun e w' => ∃ v, e = .returned v ∧ ∃ N, TellAt w.heap.size w' v N ∧ TellL D.R (walkP D.R D.R.length r 0) N ∧ Below w.heap.size w w' := by
  refine wrap_tree D.db D.q w (fun v w' => ∃ N, TellAt w.heap.size w' v N ∧ TellL D.R (walkP D.R D.R.length r 0) N ∧ Below w.heap.size w w') (cell_of_blk h.dblk 0 _ rfl) (hide ((ptree_any D.ρ D.nb D.mb w D.q D.R D.last h.dom h.ok r hr hr1).mono ?_))
  rintro e w' ⟨q, N, rfl, h1, h2, h3⟩
  exact ⟨q, rfl, N, h1, h2, h3⟩
theorem pair_ids {own : Owns} {i : Nat} {w : World} {D : PD} (h : PairOk own i w D) {r : Nat} (hr : r < D.R.length) (hr1 : D.R[r].id = 1) :
    Calls Tryz.prog 29 #[.pointer (some ⟨D.db, 0, none⟩)] w fun e w' => ∃ v, e = .returned v ∧ w'.ownsRow w.heap.size 3 1 v (widP D.R D.R.length r).length (ints (widP D.R D.R.length r)) ∧ Below w.heap.size w w' := by
  refine wrap_ids D.db D.q w (fun v w' => w'.ownsRow w.heap.size 3 1 v (widP D.R D.R.length r).length (ints (widP D.R D.R.length r)) ∧ Below w.heap.size w w') (cell_of_blk h.dblk 0 _ rfl) (hide ((pids_any D.ρ D.nb D.mb w D.q D.R D.last h.dom h.ok r hr hr1).mono ?_))
  rintro e w' ⟨v, rfl, h1, h2⟩
  exact ⟨v, rfl, h1, h2⟩
theorem pair_loose {own : Owns} {i : Nat} {w : World} {D : PD} (h : PairOk own i w D) {r : Nat} (hr : r < D.R.length) (hr1 : D.R[r].id = 1) :
    Calls Tryz.prog 32 #[.pointer (some ⟨D.db, 0, none⟩)] w fun e w' => ∃ v, e = .returned v ∧ v = .int .i64 ((D.R.length : Int) - ((widP D.R D.R.length r).length : Int)) ∧ Below w.heap.size w w' := by
  refine wrap_loose D.db D.q w (fun v w' => v = .int .i64 ((D.R.length : Int) - ((widP D.R D.R.length r).length : Int)) ∧ Below w.heap.size w w') (cell_of_blk h.dblk 0 _ rfl) (hide ((ploose_any D.ρ D.nb D.mb w D.q D.R D.last h.dom h.ok r hr hr1).mono ?_))
  rintro e w' ⟨rfl, h2⟩
  exact ⟨_, rfl, rfl, h2⟩
theorem pair_rtree {own : Owns} {i : Nat} {w : World} {D : PD} (h : PairOk own i w D) {r : Nat} (hr : r < D.R.length) (hat : atP D.R 1 = (r : Int)) :
    Calls Tryz.prog 27 #[.pointer (some ⟨D.p, 0, none⟩)] w fun e w' => ∃ q N, e = .returned q ∧ TellAt w.heap.size w' q N ∧ TellL D.R (walkP D.R D.R.length r 0) N ∧ Below w.heap.size w w' := by
  have hb := h.bare
  have hlen := bare_len hb
  have hf := h.dom.few
  have hw := walk_few h.ok hr 0
  obtain ⟨rk, hU⟩ := h.ok'.up
  have hfit := fitP_all hU (a := r) (by omega)
  refine (tree_any _ D.p D.R' D.last D.v w h.ref r D.R'.length (by rw [bare_at hb]; exact hat) (by omega) hfit (by rw [bare_walk hb, hlen]; omega)).mono ?_
  rintro e w' ⟨q, N, rfl, h1, h2, h3, h4⟩
  refine ⟨q, N, rfl, h1, ?_, h4⟩
  have : TellL D.R' (walkP D.R' D.R'.length r 0) N := ⟨h2, h3⟩
  rw [bare_walk hb, hlen] at this
  exact bare_tell hb this
theorem pair_rids {own : Owns} {i : Nat} {w : World} {D : PD} (h : PairOk own i w D) {r : Nat} (hr : r < D.R.length) (hat : atP D.R 1 = (r : Int)) :
    Calls Tryz.prog 30 #[.pointer (some ⟨D.p, 0, none⟩)] w fun e w' => ∃ v, e = .returned v ∧ w'.ownsRow w.heap.size 3 1 v (widP D.R D.R.length r).length (ints (widP D.R D.R.length r)) ∧ Below w.heap.size w w' := by
  have hb := h.bare
  have hlen := bare_len hb
  have hf := h.dom.few
  have hw := walk_few h.ok hr 0
  obtain ⟨rk, hU⟩ := h.ok'.up
  have hfit := fitP_all hU (a := r) (by omega)
  refine (ids_any _ D.p D.R' D.last D.v w h.ref r D.R'.length (by rw [bare_at hb]; exact hat) (by omega) hfit (by rw [bare_walk hb, hlen]; omega)).mono ?_
  rintro e w' ⟨q, rfl, h1, h2⟩
  refine ⟨q, rfl, ?_, h2⟩
  have e1 : idsTo D.R' (walkP D.R' D.R'.length r 0) (walkP D.R' D.R'.length r 0).length = ints (widP D.R D.R.length r) := by
    rw [bare_walk hb, hlen, ← widP_walk D.R D.R.length r 0]
    unfold idsTo ints
    rw [List.take_length, List.map_map]
    refine List.map_congr_left fun x _ => ?_
    show Value.int .i64 (idAt D.R' x.1) = Value.int .i64 (idAt D.R x.1)
    rw [bare_idat hb]
  rw [e1] at h1
  have h1 : w'.ownsRow w.heap.size 3 1 q (ints (widP D.R D.R.length r)).length (ints (widP D.R D.R.length r)) := h1
  rw [ints_length] at h1
  exact h1
end Go.Proofs.YtobgcaemnpkbmaaGreat
namespace Go.Proofs.YtobgcaemnpkbmaaGreat
open Go.RowKit
def LoopAt (S : Nat → Prop) (w4 : World) (p : Nat) (R : List RN) (last : Int) (X : Nat → Pat) (j : Nat) (wr : World) : Prop :=
  ∃ R' v', RefAt (andNew S w4 wr) wr p R' (runP R last X j).2 v' ∧ bareL R' = bareL (runP R last X j).1 ∧ Touch S w4 wr
theorem LoopAt.grow {S : Nat → Prop} {w4 : World} {p : Nat} {R : List RN} {last : Int} {X : Nat → Pat} {j : Nat} {wr w' : World} (h : LoopAt S w4 p R last X j wr) (hb : Below wr.heap.size wr w') : LoopAt S w4 p R last X j w' := by
  obtain ⟨R', v', h1, h2, h3⟩ := h
  refine ⟨R', v', (h1.below hb).mono fun b hb2 e => ?_, h2, h3.trans (Touch.of_below hb)⟩
  rcases e with e | e
  · exact .inl e
  · exact .inr ⟨e.1, hb2⟩
theorem loop_do {S : Nat → Prop} {w4 : World} {p : Nat} {R : List RN} {last : Int} {X : Nat → Pat} {j : Nat} {wr : World} (h : LoopAt S w4 p R last X j wr) (hok : DocOk (runP R last X j).1 (runP R last X j).2) (hl : (runP R last X j).2 ≤ 4611686018427387904) (hx : (X j).Ok) :
    Calls Tryz.prog 37 #[.pointer (some ⟨p, 0, none⟩), (X j).val] wr fun e w' => e = .returned (.bool (canP (runP R last X j).1 (runP R last X j).2 (X j))) ∧ Either (canP (runP R last X j).1 (runP R last X j).2 (X j)) (LoopAt S w4 p R last X (j + 1) w') (LoopAt S w4 p R last X j w') := by
  obtain ⟨R', v', h1, h2, h3⟩ := h
  have hok' : DocOk R' (runP R last X j).2 := by rw [← DocOk.bare, h2, DocOk.bare]; exact hok
  have hc : canP R' (runP R last X j).2 (X j) = canP (runP R last X j).1 (runP R last X j).2 (X j) := by rw [← bare_can R', h2, bare_can]
  refine (do_any _ p R' _ v' (X j) hx wr hl hok' h1).mono ?_
  rintro e w' ⟨he, ht, R2, l2, v2, h4, _, h6⟩
  rw [hc] at he h6
  have hT : Touch S w4 w' := h3.trans (ht.mono fun b _ e => by
    rcases e with e | e
    · exact .inl e
    · exact .inr e.1)
  have hM : ∀ b, b < w'.heap.size → andNew (andNew S w4 wr) wr w' b → andNew S w4 w' b := fun b hb e => by
    have hs3 := h3.size
    rcases e with (e | e) | e
    · exact .inl e
    · exact .inr ⟨e.1, hb⟩
    · exact .inr ⟨by omega, hb⟩
  refine ⟨he, ?_⟩
  revert h6
  cases canP (runP R last X j).1 (runP R last X j).2 (X j) with
  | true =>
    intro h6
    obtain ⟨e1, e2⟩ := h6.1 rfl
    refine Either.yes ⟨R2, v2, ?_, ?_, hT⟩
    · rw [e2] at h4
      exact h4.mono hM
    · rw [e1, bare_did, h2, ← bare_did]
      rfl
  | false =>
    intro h6
    obtain ⟨e1, e2⟩ := h6.2 rfl
    refine Either.no ⟨R2, v2, ?_, ?_, hT⟩
    · rw [e2] at h4
      exact h4.mono hM
    · rw [e1]
      exact h2
structure ApMid (D : PD) (X : Nat → Pat) (j0 : Nat) (w w4 : World) (ρ' : Roles) (nb' : Int → Nat) : Prop where
  run : RunsTo D.R D.last X j0
  dom : Dom ρ' nb' D.mb (some (nb' 1)) w4 D.q (runP D.R D.last X j0).1 (runP D.R D.last X j0).2
  rho : ∀ b, (D.ρ b).isSome = true → ρ' b = D.ρ b
  rho' : ∀ b, (ρ' b).isSome = true → (D.ρ b).isSome = true ∨ w.heap.size ≤ b
  touch : Touch (fun b => (D.ρ b).isSome = true) w w4
theorem set_map_pb (Ps : List PD) (i : Nat) (hi : i < Ps.length) (E : PD) (he : E.pb = Ps[i].pb) : (Ps.set i E).map (fun D => Value.pointer (some ⟨D.pb, 0, none⟩)) = Ps.map fun D => Value.pointer (some ⟨D.pb, 0, none⟩) := by
  rw [List.map_set, he]
  apply List.ext_getElem
  · simp
  · intro j h1 h2
    rw [List.getElem_set]
    split
    · rename_i e; subst e; rw [List.getElem_map]
    · rfl
theorem LawOk.applied {W0 : World} {own : Owns} {w w4 wF : World} {wb : Nat} {Ps : List PD} {m : Nat} {k k' : Int} (h : LawOk W0 own w wb Ps m k) (hk : k ≤ k') {i : Nat} (hi : i < Ps.length) {X : Nat → Pat} {j0 : Nat} {ρ' : Roles} {nb' : Int → Nat} (hM : ApMid Ps[i] X j0 w w4 ρ' nb')
    (hL : LoopAt (fun b => own b = some (i + 1, 2)) w4 Ps[i].p Ps[i].R Ps[i].last X j0 wF) (hlast : (runP Ps[i].R Ps[i].last X j0).2 ≤ k') : ∃ own' D', LawOk W0 own' wF wb (Ps.set i D') (m + 1) k' := by
  classical
  have hp := h.pair i hi
  obtain ⟨R2, v2, href, hbare, ht2⟩ := hL
  have hs1 := hM.touch.size
  have hs2 := ht2.size
  obtain ⟨hok, hfine, _⟩ := hM.run.ok hp.ok hp.fine
  have hlow : ∀ b, (own b).isSome = true → b < w.heap.size := fun b e => (h.low b e).2
  -- what is new is no other's
  have hS : ∀ b, (ρ' b).isSome = true → ¬ own b = some (i + 1, 2) := fun b e e2 => by
    rcases hM.rho' b e with e3 | e3
    · rw [hp.ro b e3] at e2; simp at e2
    · have := hlow b (by rw [e2]; rfl); omega
  have hkeep : ∀ b, (own b).isSome = true → own b ≠ some (i + 1, 1) → own b ≠ some (i + 1, 2) → wF.heap[b]? = w.heap[b]? := fun b e h1 h2 => by
    have hl := hlow b e
    exact (ht2.block b (by omega) h2).trans (hM.touch.block b hl fun e2 => h1 (hp.ro b e2))
  have hdomF : Dom ρ' nb' Ps[i].mb (some (nb' 1)) wF Ps[i].q (runP Ps[i].R Ps[i].last X j0).1 (runP Ps[i].R Ps[i].last X j0).2 := hM.dom.touch ht2 hS
  have hold : ∀ b, (own b).isSome = true → (if (ρ' b).isSome = true then some (i + 1, 1) else if andNew (fun b => own b = some (i + 1, 2)) w4 wF b then some (i + 1, 2) else own b) = own b := fun b e => by
    have hl := hlow b e
    by_cases e1 : (ρ' b).isSome = true
    · rw [if_pos e1]
      rcases hM.rho' b e1 with e3 | e3
      · exact (hp.ro b e3).symm
      · omega
    rw [if_neg e1]
    by_cases e2 : andNew (fun b => own b = some (i + 1, 2)) w4 wF b
    · rw [if_pos e2]
      rcases e2 with e2 | e2
      · exact e2.symm
      · omega
    · rw [if_neg e2]
  have hwb : wF.heap[wb]? = w.heap[wb]? := hkeep wb (by rw [h.wo]; rfl) (by rw [h.wo]; simp) (by rw [h.wo]; simp)
  obtain ⟨vp, t1, t2, t3, t4⟩ := h.top
  have htF : Touch (fun b => own b = some (i + 1, 1) ∨ own b = some (i + 1, 2)) w wF := ⟨ht2.os.trans hM.touch.os, ht2.tape.trans hM.touch.tape, ht2.output.trans hM.touch.output, Nat.le_trans hs1 hs2, fun b hb hn => (ht2.block b (by omega) fun e => hn (.inr e)).trans (hM.touch.block b hb fun e => hn (.inl (hp.ro b e)))⟩
  refine ⟨fun b => if (ρ' b).isSome = true then some (i + 1, 1) else if andNew (fun b => own b = some (i + 1, 2)) w4 wF b then some (i + 1, 2) else own b, ⟨Ps[i].pb, Ps[i].db, Ps[i].q, Ps[i].p, Ps[i].mb, ρ', nb', (runP Ps[i].R Ps[i].last X j0).1, R2, (runP Ps[i].R Ps[i].last X j0).2, v2⟩, ?_⟩
  refine ⟨(hold wb (by rw [h.wo]; rfl)).trans h.wo, ⟨vp, (World.cell?_of_block hwb).trans t1, (frozen_heap hwb _).trans t2, ?_, fun b e => (hold b (by rw [t4 b e]; rfl)).trans (t4 b e)⟩, fun i' hi' => ?_, ?_, fun b e => ?_, below_touch h.base htF (fun b e => ?_) (Nat.le_refl _), ?_, fun E hE => ?_⟩
  · rw [List.length_set, set_map_pb Ps i hi ⟨Ps[i].pb, Ps[i].db, Ps[i].q, Ps[i].p, Ps[i].mb, ρ', nb', (runP Ps[i].R Ps[i].last X j0).1, R2, (runP Ps[i].R Ps[i].last X j0).2, v2⟩ rfl]
    exact own_heap t3 fun b e => hkeep b (by rw [t4 b e]; rfl) (by rw [t4 b e]; simp) (by rw [t4 b e]; simp)
  · rw [List.length_set] at hi'
    by_cases e : i = i'
    · subst e
      rw [List.getElem_set_self]
      refine ⟨?_, ?_, (hold _ (by rw [hp.po]; rfl)).trans hp.po, (hold _ (by rw [hp.dbo]; rfl)).trans hp.dbo, hdomF, fun b e => if_pos e, href.heap (Nat.le_refl _) fun b _ e => ⟨rfl, ?_⟩, hbare, hok, hfine⟩
      · exact (hkeep _ (by rw [hp.po]; rfl) (by rw [hp.po]; simp) (by rw [hp.po]; simp)).trans hp.pblk
      · exact (hkeep _ (by rw [hp.dbo]; rfl) (by rw [hp.dbo]; simp) (by rw [hp.dbo]; simp)).trans hp.dblk
      · show (if (ρ' b).isSome = true then some (i + 1, 1) else if andNew (fun b => own b = some (i + 1, 2)) w4 wF b then some (i + 1, 2) else own b) = some (i + 1, 2)
        have hn : ¬ (ρ' b).isSome = true := fun e2 => by
          rcases e with e | e
          · exact hS b e2 e
          · have := hM.dom.low b e2; omega
        rw [if_neg hn, if_pos e]
    · rw [List.getElem_set_ne e]
      exact (h.pair i' hi').kept htF.size fun b j eb => ⟨hkeep b (by rw [eb]; rfl) (by rw [eb]; simp; omega) (by rw [eb]; simp; omega), hold b (by rw [eb]; rfl)⟩
  · exact h.book.kept htF.size (by omega) (fun o _ => ⟨World.cell?_of_block hwb, frozen_heap hwb _⟩) fun b j e => ⟨hkeep b (by rw [e]; rfl) (by rw [e]; simp) (by rw [e]; simp), hold b (by rw [e]; rfl)⟩
  · have hW := h.base.size
    have hlw : (own b).isSome = true → W0.heap.size ≤ b ∧ b < wF.heap.size := fun e => ⟨(h.low b e).1, by have := hlow b e; omega⟩
    replace e : (if (ρ' b).isSome = true then some (i + 1, 1) else if andNew (fun b => own b = some (i + 1, 2)) w4 wF b then some (i + 1, 2) else own b).isSome = true := e
    by_cases e1 : (ρ' b).isSome = true
    · refine ⟨?_, hdomF.low b e1⟩
      rcases hM.rho' b e1 with e3 | e3
      · exact (hlw (by rw [hp.ro b e3]; rfl)).1
      · omega
    rw [if_neg e1] at e
    by_cases e2 : andNew (fun b => own b = some (i + 1, 2)) w4 wF b
    · rcases e2 with e2 | e2
      · exact hlw (by rw [e2]; rfl)
      · exact ⟨by omega, e2.2⟩
    rw [if_neg e2] at e
    exact hlw e
  · rcases e with e | e
    · exact (h.low b (by rw [e]; rfl)).1
    · exact (h.low b (by rw [e]; rfl)).1
  · rw [List.length_set]; have := h.few; omega
  · rcases List.mem_or_eq_of_mem_set hE with e | e
    · exact Int.le_trans (h.last E e) hk
    · rw [e]; exact hlast
end Go.Proofs.YtobgcaemnpkbmaaGreat
namespace Go.Proofs.YtobgcaemnpkbmaaGreat
open Go.RowKit
theorem pair_apply {own : Owns} {i : Nat} {w w2 : World} {D : PD} (h : PairOk own i w D) (hlow : ∀ b, (own b).isSome = true → b < w.heap.size) (hb2 : Below w.heap.size w w2) {ao : Option Addr} {n : Nat} {X : Nat → Pat} (hX : PListAt w ao n X) (hg : w2.rowIs w.heap.size 29 ((n + 3) * 8) (patsCell (lentP X n))) (hl : D.last + n ≤ 4611686018427387904) (hn : n ≤ 1099511627776) (hx : ∀ i, i < n → (X i).Ok ∧ (X i).Ints) :
    Calls Tryz.prog 34 #[.pointer (some ⟨D.db, 0, none⟩), .slice (lentAo ao w.heap.size) (lentLen ao n) (lentCap ao n)] w2 fun e w3 => ∃ x y, e = .returned (.tuple #[.int .i64 x, .int .i64 y]) ∧ ∃ j0 ρ' nb', j0 ≤ n ∧ ((j0 = n ∧ x = 0 ∧ y = 0) ∨ (j0 < n ∧ canP (runP D.R D.last X j0).1 (runP D.R D.last X j0).2 (X j0) = false ∧ x = 4 ∧ y = j0)) ∧
      w3.rowIs w.heap.size 29 ((n + 3) * 8) (patsCell (lentP X n)) ∧ w.heap.size ≤ w3.heap.size ∧ (∀ b, b < w.heap.size → own b ≠ some (i + 1, 1) → w3.heap[b]? = w.heap[b]?) ∧ ∀ w4, Touch (fun b => b = w.heap.size) w3 w4 → ApMid D X j0 w w4 ρ' nb' := by
  have hρl : ∀ b, (D.ρ b).isSome = true → b < w.heap.size := fun b e => hlow b (by rw [h.ro b e]; rfl)
  have h2 : PairOk own i w2 D := h.kept hb2.size fun b j e => ⟨hb2.block b (hlow b (by rw [e]; rfl)), rfl⟩
  have hsome : 0 < n → ∃ ad, ao = some ad := fun h0 => by
    obtain ⟨b, o, e, _⟩ := hX h0
    exact ⟨_, e⟩
  have e1 : lentLen ao n = n := by
    unfold lentLen
    cases ao with
    | none =>
      rw [if_pos rfl]
      by_cases h0 : 0 < n
      · obtain ⟨ad, e⟩ := hsome h0; cases e
      · omega
    | some ad => rw [if_neg (by simp)]
  rw [e1]
  have hρg : D.ρ w.heap.size = none := by
    cases hρ : D.ρ w.heap.size with
    | none => rfl
    | some x => have := hρl _ (by rw [hρ]; rfl); omega
  have hP : PListAt w2 (lentAo ao w.heap.size) n X := fun h0 => by
    obtain ⟨ad, e⟩ := hsome h0
    refine ⟨w.heap.size, 0, ?_, hg.lt, fun j hj => ?_⟩
    · unfold lentAo; rw [if_neg (by rw [e]; simp)]
    · rw [Nat.zero_add, hg.cell (by omega)]
      refine congrArg some (patsCell_congr ?_)
      unfold lentP
      rw [if_pos (by omega)]
  have hfree : ∀ a, lentAo ao w.heap.size = some a → D.ρ a.block = none := fun a e => by
    unfold lentAo at e
    split at e
    · cases e
    · cases e; exact hρg
  refine wrap_apply D.db D.q w2 _ _ _ _ (cell_of_blk h2.dblk 0 _ rfl) (hide ((apply_any D.ρ D.nb D.mb w2 D.q D.R D.last h2.dom h.ok h.fine (lentAo ao w.heap.size) n (lentCap ao n) X hl hn hP hfree hx).mono ?_))
  rintro e w3 ⟨j0, hj0, hrun, ⟨nb', ρ', hW, hD⟩, hend⟩
  have hs2 := hb2.size
  have hs3 := hW.1.size
  have hgl := hg.lt
  have hrest : w3.rowIs w.heap.size 29 ((n + 3) * 8) (patsCell (lentP X n)) ∧ w.heap.size ≤ w3.heap.size ∧ (∀ b, b < w.heap.size → own b ≠ some (i + 1, 1) → w3.heap[b]? = w.heap[b]?) ∧ ∀ w4, Touch (fun b => b = w.heap.size) w3 w4 → ApMid D X j0 w w4 ρ' nb' := by
    refine ⟨hg.of_block (hW.1.block _ hgl (by rw [hρg]; simp)), by omega, fun b hb hne => (hW.1.block b (by omega) fun e => hne (h.ro b e)).trans (hb2.block b hb), fun w4 ht => ⟨hrun, hD.touch ht fun b e => ?_, hW.2.1, fun b e => ?_, ⟨ht.os.trans (hW.1.os.trans hb2.os), ht.tape.trans (hW.1.tape.trans hb2.tape), ht.output.trans (hW.1.output.trans hb2.output), Nat.le_trans (by omega) ht.size, fun b hb hn => (ht.block b (by omega) (by omega)).trans ((hW.1.block b (by omega) hn).trans (hb2.block b hb))⟩⟩⟩
    · rcases hW.2.2 b e with e2 | e2
      · have := hρl b e2; omega
      · omega
    · rcases hW.2.2 b e with e2 | e2
      · exact .inl e2
      · exact .inr (by omega)
  rcases hend with ⟨e1, rfl⟩ | ⟨e1, e2, rfl⟩
  · exact ⟨0, 0, rfl, j0, ρ', nb', hj0, .inl ⟨e1, rfl, rfl⟩, hrest⟩
  · exact ⟨4, j0, rfl, j0, ρ', nb', hj0, .inr ⟨e1, e2, rfl, rfl⟩, hrest⟩
theorem loop_start {own : Owns} {i : Nat} {w w4 : World} {D : PD} (h : PairOk own i w D) {X : Nat → Pat} {j0 : Nat} {ρ' : Roles} {nb' : Int → Nat} (hM : ApMid D X j0 w w4 ρ' nb') : LoopAt (fun b => own b = some (i + 1, 2)) w4 D.p D.R D.last X 0 w4 :=
  ⟨D.R', D.v, h.ref.heap hM.touch.size fun b hb e => ⟨hM.touch.block b hb fun e2 => by rw [h.ro b e2] at e; simp at e, .inl e⟩, h.bare, Touch.of_below (Below.refl _ _)⟩
set_option maxHeartbeats 4000000 in
set_option maxRecDepth 100000 in
theorem applied_any (W0 : World) (own : Owns) (w : World) (wb : Nat) (Ps : List PD) (m : Nat) (k : Int) (h : LawOk W0 own w wb Ps m k) (i : Nat) (hi : i < Ps.length) (ao : Option Addr) (n c : Nat) (X : Nat → Pat) (hX : PListAt w ao n X) (hfree : 0 < n → ∀ a, ao = some a → own a.block = none) (hn : n * 88 ≤ 140737488351232) (hn2 : n ≤ 1099511627776) (hk : k + n ≤ 4611686018427387904) (hx : ∀ i, i < n → (X i).Ok ∧ (X i).Ints) :
    Calls Tryz.prog 18 #[.pointer (some ⟨Ps[i].pb, 0, none⟩), .slice ao n c] w fun e w' => e = .returned (.bool true) ∧ ∃ own' D', LawOk W0 own' w' wb (Ps.set i D') (m + 1) (k + n) := by
  have hp := h.pair i hi
  have hlow : ∀ b, (own b).isSome = true → b < w.heap.size := fun b e => (h.low b e).2
  have hlast : Ps[i].last ≤ k := h.last _ (List.getElem_mem hi)
  have HEnd : Hid (∀ w4 wF j0 ρ' nb', j0 ≤ n → ApMid Ps[i] X j0 w w4 ρ' nb' → LoopAt (fun b => own b = some (i + 1, 2)) w4 Ps[i].p Ps[i].R Ps[i].last X j0 wF → ∃ own' D', LawOk W0 own' wF wb (Ps.set i D') (m + 1) (k + n)) := hide fun w4 wF j0 ρ' nb' hj hM hL => h.applied (by omega) hi hM hL (by have := (hM.run.ok hp.ok hp.fine).2.2; omega)
  clear h
  generalize Ps[i] = D at *
  have hpl : D.pb < w.heap.size := lt_of_blk hp.pblk
  have HA : Hid (∀ w2, Below w.heap.size w w2 → w2.rowIs w.heap.size 29 ((n + 3) * 8) (patsCell (lentP X n)) → Calls Tryz.prog 34 #[.pointer (some ⟨D.db, 0, none⟩), .slice (lentAo ao w.heap.size) (lentLen ao n) (lentCap ao n)] w2 fun e w3 => ∃ x y, e = .returned (.tuple #[.int .i64 x, .int .i64 y]) ∧ ∃ j0 ρ' nb', j0 ≤ n ∧ ((j0 = n ∧ x = 0 ∧ y = 0) ∨ (j0 < n ∧ canP (runP D.R D.last X j0).1 (runP D.R D.last X j0).2 (X j0) = false ∧ x = 4 ∧ y = j0)) ∧
      w3.rowIs w.heap.size 29 ((n + 3) * 8) (patsCell (lentP X n)) ∧ w.heap.size ≤ w3.heap.size ∧ (∀ b, b < w.heap.size → own b ≠ some (i + 1, 1) → w3.heap[b]? = w.heap[b]?) ∧ ∀ w4, Touch (fun b => b = w.heap.size) w3 w4 → ApMid D X j0 w w4 ρ' nb') := hide fun w2 hb2 hg => pair_apply hp hlow hb2 hX hg (by omega) hn2 hx
  have x0 : w.cell? ⟨D.pb, 0, none⟩ = some (.pointer (some ⟨D.db, 0, none⟩)) := cell_of_blk hp.pblk 0 _ rfl
  have y1 : w.cell? ⟨D.pb, 1, none⟩ = some (.pointer (some ⟨D.p, 0, none⟩)) := cell_of_blk hp.pblk 1 _ rfl
  have hpo : own D.pb ≠ some (i + 1, 1) ∧ own D.pb ≠ some (i + 1, 2) := by rw [hp.po]; simp
  -- what the loop reads is kept
  have HRd : Hid (∀ w4 wr j0 ρ' nb', ApMid D X j0 w w4 ρ' nb' → Touch (fun b => own b = some (i + 1, 2)) w4 wr → wr.cell? ⟨D.pb, 1, none⟩ = some (.pointer (some ⟨D.p, 0, none⟩)) ∧ PListAt wr ao n X) := hide fun w4 wr j0 ρ' nb' hM ht => by
    have hkeep : ∀ b, b < w.heap.size → own b ≠ some (i + 1, 1) → own b ≠ some (i + 1, 2) → wr.heap[b]? = w.heap[b]? := fun b hb h1 h2 => (ht.block b (Nat.lt_of_lt_of_le hb hM.touch.size) h2).trans (hM.touch.block b hb fun e => h1 (hp.ro b e))
    refine ⟨(World.cell?_of_block (hkeep _ hpl hpo.1 hpo.2)).trans y1, fun h0 => ?_⟩
    obtain ⟨b, o, e, hpat⟩ := hX h0
    have hb := hkeep b hpat.lt (by rw [hfree h0 _ e]; simp) (by rw [hfree h0 _ e]; simp)
    exact ⟨b, o, e, Nat.lt_of_lt_of_le hpat.lt (Nat.le_trans hM.touch.size ht.size), fun j hj => (World.cell?_of_block hb).trans (hpat.cell j hj)⟩
  have HX3 : Hid (∀ w3, w.heap.size ≤ w3.heap.size → (∀ b, b < w.heap.size → own b ≠ some (i + 1, 1) → w3.heap[b]? = w.heap[b]?) → w3.cell? ⟨D.pb, 0, none⟩ = some (.pointer (some ⟨D.db, 0, none⟩)) ∧ PListAt w3 ao n X) := hide fun w3 hs hkeep => by
    refine ⟨(World.cell?_of_block (hkeep _ hpl hpo.1)).trans x0, fun h0 => ?_⟩
    obtain ⟨b, o, e, hpat⟩ := hX h0
    have hb := hkeep b hpat.lt (by rw [hfree h0 _ e]; simp)
    exact ⟨b, o, e, Nat.lt_of_lt_of_le hpat.lt hs, fun j hj => (World.cell?_of_block hb).trans (hpat.cell j hj)⟩
  have HDo : Hid (∀ w4 wr j j0 ρ' nb', ApMid D X j0 w w4 ρ' nb' → j ≤ j0 → j < n → LoopAt (fun b => own b = some (i + 1, 2)) w4 D.p D.R D.last X j wr → Calls Tryz.prog 37 #[.pointer (some ⟨D.p, 0, none⟩), (X j).val] wr fun e w' => e = .returned (.bool (canP (runP D.R D.last X j).1 (runP D.R D.last X j).2 (X j))) ∧ Either (canP (runP D.R D.last X j).1 (runP D.R D.last X j).2 (X j)) (LoopAt (fun b => own b = some (i + 1, 2)) w4 D.p D.R D.last X (j + 1) w') (LoopAt (fun b => own b = some (i + 1, 2)) w4 D.p D.R D.last X j w')) := hide fun w4 wr j j0 ρ' nb' hM hj hjn hL => by
    have hr : RunsTo D.R D.last X j := fun j' h' => hM.run j' (by omega)
    obtain ⟨h1, _, h3⟩ := hr.ok hp.ok hp.fine
    exact loop_do hL h1 (by omega) (hx j hjn).1
  have HSt : Hid (∀ w4 j0 ρ' nb', ApMid D X j0 w w4 ρ' nb' → LoopAt (fun b => own b = some (i + 1, 2)) w4 D.p D.R D.last X 0 w4) := hide fun w4 j0 ρ' nb' hM => loop_start hp hM
  have HPat := hide (patches_any ao n c X w hn hX)
  clear hp hlow hX hfree hx hpo y1
  go_enter Tryz.func18, Tryz.ntmps18
  go_wp2_with fail
  refine (unhide HPat).mono ?_
  rintro e w2 ⟨rfl, hb2, hr2⟩
  have x2 := (hb2.cell (p := ⟨D.pb, 0, none⟩) hpl).trans x0
  have HB2 := hide hb2
  have HR2 := hide hr2
  clear hb2 hr2 HPat x0
  go_wp2_with fail
  go_region_held3 (fun w' => w'.cell? ⟨D.pb, 0, none⟩ = some (.pointer (some ⟨D.db, 0, none⟩)))
    (first
      | go_keep
      | exact hx3)
    (first | (go_at_call 35; refine (lentPatches_any ao w.heap.size n c _ (by omega)).mono ?_; rintro e w' ⟨rfl, hw'⟩; rw [hw']; clear hw') | (go_at_call 34; refine (unhide HA _ HB2.out.drew (HR2.out.of_block rfl)).mono ?_; rintro e w3 ⟨x, y, rfl, j0, ρ', nb', hj0, hend, hr3, hs3, hk3, hM3⟩; obtain ⟨hx3, hp3⟩ := HX3.out w3 hs3 hk3))
  have HM3 := hide hM3
  have HE := hide hend
  clear hM3 hend hk3 hs3 HA HX3 hx3 HR2 HB2 x2
  go_wp2_with fail
  refine (wholePatches_any ao w.heap.size n c X w3 hn hp3 hr3).mono ?_
  rintro e w4 ⟨rfl, ht4⟩
  have HM := hide (HM3.out w4 ht4)
  have HL0 := hide (HSt.out w4 j0 ρ' nb' HM.out)
  clear hp3 hr3 ht4 HM3 HSt
  go_wp2_with fail
  go_loopw [9, 10] (fun i' _ wr => ∃ j : Nat, j ≤ j0 ∧ i' = .int .i64 j ∧ Hid (LoopAt (fun b => own b = some (i + 1, 2)) w4 D.p D.R D.last X j wr)) (fun i' _ _ => n - (intOf i').toNat)
  case atStart => exact ⟨0, Nat.zero_le _, rfl, HL0⟩
  case round =>
    obtain ⟨j, hj, rfl, hL⟩ := hrel
    clear HL0
    by_cases hlt : j < n
    · have hji : (j : Int) < (n : Int) := by omega
      obtain ⟨b, o, hao, _⟩ := (HRd.out w4 wr j0 ρ' nb' HM.out (by obtain ⟨_, _, _, _, ht⟩ := hL.out; exact ht)).2 (by omega)
      subst hao
      obtain ⟨kd, id, pa, bf, ky, tg, nm, tx, hXj⟩ : ∃ kd id pa bf ky tg nm tx, X j = ⟨kd, id, pa, bf, ky, tg, nm, tx⟩ := ⟨_, _, _, _, _, _, _, _, rfl⟩
      have HS : Hid (∀ w', Touch (fun b => own b = some (i + 1, 2)) w4 w' → w'.cell? ⟨D.pb, 1, none⟩ = some (.pointer (some ⟨D.p, 0, none⟩)) ∧ w'.cell? ⟨b, o + j * 8, none⟩ = some (.int .i64 kd) ∧ w'.cell? ⟨b, o + j * 8 + 1, none⟩ = some (.int .i64 id) ∧ w'.cell? ⟨b, o + j * 8 + 2, none⟩ = some (.int .i64 pa) ∧ w'.cell? ⟨b, o + j * 8 + 3, none⟩ = some (.int .i64 bf) ∧ w'.cell? ⟨b, o + j * 8 + 4, none⟩ = some (.int .i64 ky) ∧ w'.cell? ⟨b, o + j * 8 + 5, none⟩ = some (.string tg) ∧ w'.cell? ⟨b, o + j * 8 + 6, none⟩ = some (.string nm) ∧ w'.cell? ⟨b, o + j * 8 + 7, none⟩ = some (.string tx)) := hide fun w' ht => by
        obtain ⟨h1, h2⟩ := HRd.out w4 w' j0 ρ' nb' HM.out ht
        obtain ⟨b', o', e, hpat⟩ := h2 (by omega)
        simp at e
        obtain ⟨rfl, rfl⟩ := e
        have hcell : ∀ r, r < 8 → w'.cell? ⟨b, o + (j * 8 + r), none⟩ = some (patCell ⟨kd, id, pa, bf, ky, tg, nm, tx⟩ r) := fun r hr => by
          rw [hpat.cell _ (by omega), patsCell_at _ _ _ hr, hXj]
        refine ⟨h1, ?_, ?_, ?_, ?_, ?_, ?_, ?_, ?_⟩
        · have := hcell 0 (by decide); simpa [patCell, Nat.add_assoc] using this
        · have := hcell 1 (by decide); simpa [patCell, Nat.add_assoc] using this
        · have := hcell 2 (by decide); simpa [patCell, Nat.add_assoc] using this
        · have := hcell 3 (by decide); simpa [patCell, Nat.add_assoc] using this
        · have := hcell 4 (by decide); simpa [patCell, Nat.add_assoc] using this
        · have := hcell 5 (by decide); simpa [patCell, Nat.add_assoc] using this
        · have := hcell 6 (by decide); simpa [patCell, Nat.add_assoc] using this
        · have := hcell 7 (by decide); simpa [patCell, Nat.add_assoc] using this
      obtain ⟨s1, c0, c1, c2, c3, c4, c5, c6, c7⟩ := HS.out wr (by obtain ⟨_, _, _, _, ht⟩ := hL.out; exact ht)
      by_cases hj0' : j < j0
      · have HD : Hid (∀ w8, LoopAt (fun b => own b = some (i + 1, 2)) w4 D.p D.R D.last X j w8 → Calls Tryz.prog 37 #[.pointer (some ⟨D.p, 0, none⟩), (.agg #[.int .i64 kd, .int .i64 id, .int .i64 pa, .int .i64 bf, .int .i64 ky, .string tg, .string nm, .string tx])] w8 fun e w' => e = .returned (.bool true) ∧ LoopAt (fun b => own b = some (i + 1, 2)) w4 D.p D.R D.last X (j + 1) w') := hide fun w8 h8 => by
          have := HDo.out w4 w8 j j0 ρ' nb' HM.out (by omega) hlt h8
          rw [HM.out.run j hj0', hXj] at this
          exact this.mono fun e w' ⟨h1, h2⟩ => ⟨h1, h2.1 rfl⟩
        clear HDo HRd hXj
        go_wp2_with fail
        go_region_held3 (fun w' => w'.cell? ⟨D.pb, 1, none⟩ = some (.pointer (some ⟨D.p, 0, none⟩)) ∧ w'.cell? ⟨b, o + j * 8, none⟩ = some (.int .i64 kd) ∧ w'.cell? ⟨b, o + j * 8 + 1, none⟩ = some (.int .i64 id) ∧ w'.cell? ⟨b, o + j * 8 + 2, none⟩ = some (.int .i64 pa) ∧ w'.cell? ⟨b, o + j * 8 + 3, none⟩ = some (.int .i64 bf) ∧ w'.cell? ⟨b, o + j * 8 + 4, none⟩ = some (.int .i64 ky) ∧ w'.cell? ⟨b, o + j * 8 + 5, none⟩ = some (.string tg) ∧ w'.cell? ⟨b, o + j * 8 + 6, none⟩ = some (.string nm) ∧ w'.cell? ⟨b, o + j * 8 + 7, none⟩ = some (.string tx))
          (first
            | go_keep
            | exact hS9)
          (first | (go_at_call 37; refine (unhide HD _ (LoopAt.grow hL.out ((Below.refl _ _).drew))).mono ?_; rintro e w9 ⟨rfl, hL9⟩; have hS9 := HS.out w9 (by obtain ⟨_, _, _, _, ht⟩ := hL9; exact ht)))
        have HL9 := hide hL9
        clear hL9
        go_wp2_with fail
        go_roundw
        case rel => exact ⟨j + 1, by omega, by go_num, HL9⟩
        case measure => simp [intOf]; omega
      · have hje : j = j0 := by omega
        subst hje
        obtain ⟨hcan, rfl, rfl⟩ : canP (runP D.R D.last X j).1 (runP D.R D.last X j).2 (X j) = false ∧ x = 4 ∧ y = j := by
          rcases HE.out with ⟨e, _⟩ | ⟨_, h1, h2, h3⟩
          · omega
          · exact ⟨h1, h2, h3⟩
        have HD : Hid (∀ w8, LoopAt (fun b => own b = some (i + 1, 2)) w4 D.p D.R D.last X j w8 → Calls Tryz.prog 37 #[.pointer (some ⟨D.p, 0, none⟩), (.agg #[.int .i64 kd, .int .i64 id, .int .i64 pa, .int .i64 bf, .int .i64 ky, .string tg, .string nm, .string tx])] w8 fun e w' => e = .returned (.bool false) ∧ LoopAt (fun b => own b = some (i + 1, 2)) w4 D.p D.R D.last X j w') := hide fun w8 h8 => by
          have := HDo.out w4 w8 j j ρ' nb' HM.out (by omega) hlt h8
          rw [hcan, hXj] at this
          exact this.mono fun e w' ⟨h1, h2⟩ => ⟨h1, h2.2 rfl⟩
        clear HDo HRd hXj hcan HE
        go_wp2_with fail
        go_region_held3 (fun w' => w'.cell? ⟨D.pb, 1, none⟩ = some (.pointer (some ⟨D.p, 0, none⟩)) ∧ w'.cell? ⟨b, o + j * 8, none⟩ = some (.int .i64 kd) ∧ w'.cell? ⟨b, o + j * 8 + 1, none⟩ = some (.int .i64 id) ∧ w'.cell? ⟨b, o + j * 8 + 2, none⟩ = some (.int .i64 pa) ∧ w'.cell? ⟨b, o + j * 8 + 3, none⟩ = some (.int .i64 bf) ∧ w'.cell? ⟨b, o + j * 8 + 4, none⟩ = some (.int .i64 ky) ∧ w'.cell? ⟨b, o + j * 8 + 5, none⟩ = some (.string tg) ∧ w'.cell? ⟨b, o + j * 8 + 6, none⟩ = some (.string nm) ∧ w'.cell? ⟨b, o + j * 8 + 7, none⟩ = some (.string tx))
          (first
            | go_keep
            | exact hS9)
          (first | (go_at_call 37; refine (unhide HD _ (LoopAt.grow hL.out ((Below.refl _ _).drew))).mono ?_; rintro e w9 ⟨rfl, hL9⟩; have hS9 := HS.out w9 (by obtain ⟨_, _, _, _, ht⟩ := hL9; exact ht)))
        have HL9 := hide hL9
        clear hL9
        go_wp2_with (go_at_call 14; refine (num_any _ _).mono ?_; rintro e w9 ⟨rfl, rfl⟩)
        go_ret
        refine ⟨?_, HEnd.out w4 _ j ρ' nb' (by omega) HM.out HL9.out⟩
        simp
    · have hji : ¬ (j : Int) < (n : Int) := by omega
      have hje : j0 = n := by omega
      obtain ⟨rfl, rfl⟩ : x = 0 ∧ y = 0 := by
        rcases HE.out with ⟨_, h2, h3⟩ | ⟨e, _⟩
        · exact ⟨h2, h3⟩
        · omega
      have hjj : j = j0 := by omega
      subst hjj
      clear HE
      go_wp2_with fail
      go_ret
      exact ⟨rfl, HEnd.out w4 _ j ρ' nb' (by omega) HM.out hL.out⟩
end Go.Proofs.YtobgcaemnpkbmaaGreat
