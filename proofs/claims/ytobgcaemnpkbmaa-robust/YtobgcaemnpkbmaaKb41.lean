/- He Hf -/
import Derived.Test.YtobgcaemnpkbmaaKb40
namespace Go.Proofs.Ytobgcaemnpkbmaa
open Go.RowKit
structure TwoAt (w0 w : World) (d1 d2 : Nat) (R1 R2 : List RN) (l1 l2 : Int) (ρ1 ρ2 : Roles) (n1 n2 : Int → Nat) (m1 m2 q1 q2 : Nat) : Prop where
  one : DomAt ρ1 n1 m1 q1 d1 w R1 l1
  two : DomAt ρ2 n2 m2 q2 d2 w R2 l2
  a12 : Apart ρ1 ρ2
  a21 : Apart ρ2 ρ1
  o12 : ρ1 d2 = none
  o21 : ρ2 d1 = none
  bel : Below w0.heap.size w0 w
  b1 : ∀ b, (ρ1 b).isSome = true → w0.heap.size ≤ b
  b2 : ∀ b, (ρ2 b).isSome = true → w0.heap.size ≤ b
def Two (w0 w : World) (d1 d2 : Nat) (R1 R2 : List RN) (l1 l2 : Int) : Prop := ∃ ρ1 ρ2 n1 n2 m1 m2 q1 q2, TwoAt w0 w d1 d2 R1 R2 l1 l2 ρ1 ρ2 n1 n2 m1 m2 q1 q2
theorem Two.below {w0 w w' : World} {d1 d2 : Nat} {R1 R2 : List RN} {l1 l2 : Int} (h : Two w0 w d1 d2 R1 R2 l1 l2) (hb : Below w.heap.size w w') : Two w0 w' d1 d2 R1 R2 l1 l2 := by
  obtain ⟨ρ1, ρ2, n1, n2, m1, m2, q1, q2, h⟩ := h
  exact ⟨ρ1, ρ2, n1, n2, m1, m2, q1, q2, h.one.below hb, h.two.below hb, h.a12, h.a21, h.o12, h.o21, h.bel.trans (hb.mono h.bel.size), h.b1, h.b2⟩
theorem Two.bel {w0 w : World} {d1 d2 : Nat} {R1 R2 : List RN} {l1 l2 : Int} (h : Two w0 w d1 d2 R1 R2 l1 l2) : Below w0.heap.size w0 w := by
  obtain ⟨ρ1, ρ2, n1, n2, m1, m2, q1, q2, h⟩ := h
  exact h.bel
theorem apart_swap {ρ ρ2 : Roles} (h : Apart ρ ρ2) : Apart ρ2 ρ := fun b e => by
  cases e2 : ρ b with
  | none => rfl
  | some v => rw [h b (by rw [e2]; rfl)] at e; cases e
theorem below_wroteK {w0 w w' : World} {ρ ρ' : Roles} (hb : Below w0.heap.size w0 w) (h : Wrote ρ ρ' w w') (hl : ∀ b, (ρ b).isSome = true → w0.heap.size ≤ b) : Below w0.heap.size w0 w' :=
  hb.trans ⟨h.1.os, h.1.tape, h.1.output, h.1.size, fun b hlt => h.1.block b (Nat.lt_of_lt_of_le hlt hb.size) fun e => by have := hl b e; omega⟩
theorem two_new {w0 w : World} {d1 : Nat} {R1 : List RN} {l1 : Int} {ρ1 : Roles} {n1 : Int → Nat} {m1 q1 : Nat} (h1 : DomAt ρ1 n1 m1 q1 d1 w R1 l1) (hb : Below w0.heap.size w0 w) (hl1 : ∀ b, (ρ1 b).isSome = true → w0.heap.size ≤ b)
    {w' : World} {d2 : Nat} {R2 : List RN} {l2 : Int} {ρ2 : Roles} {n2 : Int → Nat} {m2 q2 : Nat} (h2 : DomAt ρ2 n2 m2 q2 d2 w' R2 l2) (hb2 : Below w.heap.size w w') (hl2 : ∀ b, (ρ2 b).isSome = true → w.heap.size ≤ b) (hd : w.heap.size ≤ d2) : Two w0 w' d1 d2 R1 R2 l1 l2 := by
  have a21 : Apart ρ2 ρ1 := fun b e => by
    cases e1 : ρ1 b with
    | none => rfl
    | some v => have := h1.dom.low b (by rw [e1]; rfl); have := hl2 b e; omega
  refine ⟨ρ1, ρ2, n1, n2, m1, m2, q1, q2, h1.below hb2, h2, apart_swap a21, a21, ?_, ?_, hb.trans (hb2.mono hb.size), hl1, fun b e => Nat.le_trans hb.size (hl2 b e)⟩
  · cases e1 : ρ1 d2 with
    | none => rfl
    | some v => have := h1.dom.low d2 (by rw [e1]; rfl); omega
  · cases e1 : ρ2 d1 with
    | none => rfl
    | some v => have := hl2 d1 (by rw [e1]; rfl); have := lt_of_blk h1.blk; omega
theorem two_all (w0 w : World) (d1 d2 : Nat) (R1 R2 : List RN) (l1 l2 : Int) (h : Two w0 w d1 d2 R1 R2 l1 l2) (ao : Option Addr) (n c : Nat) (X : Nat → Pat) (hl : l1 + n ≤ 4611686018427387904) (hn : n ≤ 2199023255552) (hX : PListAt w0 ao n X) (hx : ∀ i, i < n → (X i).Ok ∧ (X i).Ints) :
    Calls Try.prog 15 #[.pointer (some ⟨d1, 0, none⟩), .slice ao n c] w fun e w' => ∃ x y, e = .returned (.tuple #[.int .i64 x, .int .i64 y]) ∧ ∃ k, k ≤ n ∧ RunsTo R1 l1 X k ∧ Two w0 w' d1 d2 (runP R1 l1 X k).1 R2 (runP R1 l1 X k).2 l2 ∧ ((k = n ∧ x = 0 ∧ y = 0) ∨ (k < n ∧ canP (runP R1 l1 X k).1 (runP R1 l1 X k).2 (X k) = false ∧ x = 4 ∧ y = k)) := by
  obtain ⟨ρ1, ρ2, n1, n2, m1, m2, q1, q2, h⟩ := h
  have hXw : PListAt w ao n X := fun h0 => by
    obtain ⟨b, o, e, hp⟩ := hX h0
    exact ⟨b, o, e, Nat.lt_of_lt_of_le hp.lt h.bel.size, fun j hj => (h.bel.cell (p := ⟨b, _, none⟩) hp.lt).trans (hp.cell j hj)⟩
  refine (dapply ρ1 n1 m1 q1 d1 w R1 l1 h.one ao n c X hl hn hXw (fun h0 a e => ?_) hx).mono ?_
  · cases e1 : ρ1 a.block with
    | none => rfl
    | some v =>
      obtain ⟨b, o, e2, hp⟩ := hX h0
      rw [e] at e2
      cases e2
      have := h.b1 b (by rw [e1]; rfl)
      have := hp.lt
      omega
  · rintro e w' ⟨x, y, rfl, k, hk, hr, ⟨nb', ρ', hw, hd⟩, hout⟩
    obtain ⟨g1, g2, g3⟩ := h.two.other h.a21 h.o12 hw
    have g4 : ρ' d1 = none := hd.out
    refine ⟨x, y, rfl, k, hk, hr, ⟨ρ', ρ2, nb', n2, m1, m2, q1, q2, hd, g1, apart_swap g2, g2, g3, h.o21, below_wroteK h.bel hw h.b1, fun b e => ?_, h.b2⟩, hout⟩
    rcases hw.2.2 b e with e2 | e2
    · exact h.b1 b e2
    · exact Nat.le_trans h.bel.size e2
theorem two_one (w0 w w1 : World) (d1 d2 : Nat) (R1 R2 : List RN) (l1 l2 : Int) (h : Two w0 w d1 d2 R1 R2 l1 l2) (hb : Below w.heap.size w w1) (g : Nat) (hg : w.heap.size ≤ g) (x : Pat) (hl : l2 + 1 ≤ 4611686018427387904) (hX : PListAt w1 (some ⟨g, 0, none⟩) 1 (fun _ => x)) (hx : x.Ok ∧ x.Ints) (r : Bool) (hr : canP R2 l2 x = r) :
    Calls Try.prog 15 #[.pointer (some ⟨d2, 0, none⟩), .slice (some ⟨g, 0, none⟩) 1 1] w1 fun e w' => e = .returned (.tuple #[.int .i64 (if r = true then 0 else 4), .int .i64 0]) ∧ Two w0 w' d1 d2 R1 (if r = true then didP R2 x else R2) l1 (if r = true then lastP l2 x else l2) := by
  obtain ⟨ρ1, ρ2, n1, n2, m1, m2, q1, q2, h⟩ := h
  have h' : TwoAt w0 w1 d1 d2 R1 R2 l1 l2 ρ1 ρ2 n1 n2 m1 m2 q1 q2 := ⟨h.one.below hb, h.two.below hb, h.a12, h.a21, h.o12, h.o21, h.bel.trans (hb.mono h.bel.size), h.b1, h.b2⟩
  have hfree : ρ2 g = none := by
    cases e1 : ρ2 g with
    | none => rfl
    | some v => have := h.two.dom.low g (by rw [e1]; rfl); omega
  refine (dapply ρ2 n2 m2 q2 d2 w1 R2 l2 h'.two (some ⟨g, 0, none⟩) 1 1 (fun _ => x) hl (by decide) hX (fun _ a e => by cases e; exact hfree) (fun _ _ => hx)).mono ?_
  rintro e w' ⟨x', y, rfl, k, hk, hrun, ⟨nb', ρ', hw, hd⟩, hout⟩
  obtain ⟨g1, g2, g3⟩ := h'.one.other h'.a12 h'.o21 hw
  have hT : Two w0 w' d1 d2 R1 (runP R2 l2 (fun _ => x) k).1 l1 (runP R2 l2 (fun _ => x) k).2 := by
    refine ⟨ρ1, ρ', n1, nb', m1, m2, q1, q2, g1, hd, g2, apart_swap g2, h'.o12, g3, below_wroteK h'.bel hw h'.b2, h'.b1, fun b e => ?_⟩
    rcases hw.2.2 b e with e2 | e2
    · exact h'.b2 b e2
    · exact Nat.le_trans h'.bel.size e2
  cases r with
  | true =>
    rcases hout with ⟨rfl, rfl, rfl⟩ | ⟨h1, h2, _⟩
    · exact ⟨rfl, hT⟩
    · have : k = 0 := by omega
      subst this
      have e1 : canP (runP R2 l2 (fun _ => x) 0).1 (runP R2 l2 (fun _ => x) 0).2 x = canP R2 l2 x := rfl
      rw [e1, hr] at h2
      cases h2
  | false =>
    rcases hout with ⟨rfl, rfl, rfl⟩ | ⟨h1, h2, rfl, rfl⟩
    · have h3 := hrun 0 (by omega)
      have e1 : canP (runP R2 l2 (fun _ => x) 0).1 (runP R2 l2 (fun _ => x) 0).2 x = canP R2 l2 x := rfl
      rw [e1, hr] at h3
      cases h3
    · have : k = 0 := by omega
      subst this
      exact ⟨rfl, hT⟩
theorem two_patch (w0 w : World) (d1 d2 : Nat) (R1 R2 : List RN) (l1 l2 : Int) (h : Two w0 w d1 d2 R1 R2 l1 l2) (x : Pat) (hl : l2 + 1 ≤ 4611686018427387904) (hx : x.Ok ∧ x.Ints) (r : Bool) (hr : canP R2 l2 x = r) :
    Calls Try.prog 15 #[.pointer (some ⟨d2, 0, none⟩), .slice (some ⟨w.heap.size, 0, none⟩) 1 1] (w.alloc (.cells #[.int .i64 x.kind, .int .i64 x.id, .int .i64 x.par, .int .i64 x.bef, .int .i64 x.key, .string x.tag, .string x.name, .string x.text] 43)) fun e w' => e = .returned (.tuple #[.int .i64 (if r = true then 0 else 4), .int .i64 0]) ∧ Two w0 w' d1 d2 R1 (if r = true then didP R2 x else R2) l1 (if r = true then lastP l2 x else l2) := by
  have hblk : (w.alloc (.cells #[.int .i64 x.kind, .int .i64 x.id, .int .i64 x.par, .int .i64 x.bef, .int .i64 x.key, .string x.tag, .string x.name, .string x.text] 43)).heap[w.heap.size]? = some (.cells #[.int .i64 x.kind, .int .i64 x.id, .int .i64 x.par, .int .i64 x.bef, .int .i64 x.key, .string x.tag, .string x.name, .string x.text] 43 (0, 0)) := by
    show (w.heap.push _)[w.heap.size]? = _
    simp
  refine two_one w0 w _ d1 d2 R1 R2 l1 l2 h ((Below.refl _ _).alloc (Nat.le_refl _) _) w.heap.size (Nat.le_refl _) x hl (fun _ => ⟨w.heap.size, 0, rfl, lt_of_blk hblk, fun j hj => ?_⟩) hx r hr
  rw [Nat.zero_add]
  refine cell_of_blk hblk j _ ?_
  match j, hj with
  | 0, _ => rfl
  | 1, _ => rfl
  | 2, _ => rfl
  | 3, _ => rfl
  | 4, _ => rfl
  | 5, _ => rfl
  | 6, _ => rfl
  | 7, _ => rfl
theorem two_tree1 (w0 w w1 : World) (d1 d2 : Nat) (R1 R2 : List RN) (l1 l2 : Int) (h : Two w0 w d1 d2 R1 R2 l1 l2) (hb : Below w.heap.size w w1) (r : Nat) (hr : r < R1.length) (hr1 : R1[r].id = 1) :
    Calls Try.prog 18 #[.pointer (some ⟨d1, 0, none⟩)] w1 fun e w' => ∃ ao c N, e = .returned (.slice ao (walkP R1 R1.length r 0).length c) ∧ ListAt w' ao (walkP R1 R1.length r 0).length (nodsK N) ∧ TellL R1 (walkP R1 R1.length r 0) N ∧ (∀ n, n ∈ N → n.an = n.ats.length) ∧ Below w1.heap.size w1 w' := by
  obtain ⟨ρ1, ρ2, n1, n2, m1, m2, q1, q2, h⟩ := h
  refine (dtree ρ1 n1 m1 q1 d1 w1 R1 l1 (h.one.below hb) r hr hr1).mono ?_
  rintro e w' ⟨v, rfl, N, hT, hL, hb'⟩
  obtain ⟨ao, c, rfl⟩ := own_shape hT.row
  have hw := walkK_few h.one.ok hr 0
  have hfew := h.one.dom.few
  have hl := hT.listK rfl (by rw [hL.1]; omega) (tellK_few hL fun n hn => by
    obtain ⟨av, kv, hp⟩ := h.one.dom.node n hn
    exact hp.few)
  have hA := fun n hn => (hT.node n hn).an
  rw [hL.1] at hl ⊢
  exact ⟨ao, c, N, rfl, hl, hL, hA, hb'⟩
theorem two_swap {w0 w : World} {d1 d2 : Nat} {R1 R2 : List RN} {l1 l2 : Int} (h : Two w0 w d1 d2 R1 R2 l1 l2) : Two w0 w d2 d1 R2 R1 l2 l1 := by
  obtain ⟨ρ1, ρ2, n1, n2, m1, m2, q1, q2, h⟩ := h
  exact ⟨ρ2, ρ1, n2, n1, m2, m1, q2, q1, h.two, h.one, h.a21, h.a12, h.o21, h.o12, h.bel, h.b2, h.b1⟩
theorem two_ids1 (w0 w w1 : World) (d1 d2 : Nat) (R1 R2 : List RN) (l1 l2 : Int) (h : Two w0 w d1 d2 R1 R2 l1 l2) (hb : Below w.heap.size w w1) (r : Nat) (hr : r < R1.length) (hr1 : R1[r].id = 1) :
    Calls Try.prog 16 #[.pointer (some ⟨d1, 0, none⟩)] w1 fun e w' => ∃ ao c, e = .returned (.slice ao (widP R1 R1.length r).length c) ∧ w'.ownsRow w1.heap.size 3 1 (.slice ao (widP R1 R1.length r).length c) (widP R1 R1.length r).length (ints (widP R1 R1.length r)) ∧ Below w1.heap.size w1 w' := by
  obtain ⟨ρ1, ρ2, n1, n2, m1, m2, q1, q2, h⟩ := h
  refine (dids ρ1 n1 m1 q1 d1 w1 R1 l1 (h.one.below hb) r hr hr1).mono ?_
  rintro e w' ⟨v, rfl, hrow, hb'⟩
  obtain ⟨ao, c, rfl⟩ := own_shape hrow
  exact ⟨ao, c, rfl, hrow, hb'⟩
theorem two_loose1 (w0 w w1 : World) (d1 d2 : Nat) (R1 R2 : List RN) (l1 l2 : Int) (h : Two w0 w d1 d2 R1 R2 l1 l2) (hb : Below w.heap.size w w1) (r : Nat) (hr : r < R1.length) (hr1 : R1[r].id = 1) :
    Calls Try.prog 19 #[.pointer (some ⟨d1, 0, none⟩)] w1 fun e w' => e = .returned (.int .i64 ((R1.length : Int) - ((widP R1 R1.length r).length : Int))) ∧ Below w1.heap.size w1 w' := by
  obtain ⟨ρ1, ρ2, n1, n2, m1, m2, q1, q2, h⟩ := h
  refine (dloose ρ1 n1 m1 q1 d1 w1 R1 l1 (h.one.below hb) r hr hr1).mono ?_
  rintro e w' ⟨v, rfl, rfl, hb'⟩
  exact ⟨rfl, hb'⟩
theorem two_doc {w0 w : World} {d1 d2 : Nat} {R1 R2 : List RN} {l1 l2 : Int} (h : Two w0 w d1 d2 R1 R2 l1 l2) : DocOk R1 l1 ∧ Fine R1 ∧ R1.length ≤ 800 := by
  obtain ⟨ρ1, ρ2, n1, n2, m1, m2, q1, q2, h⟩ := h
  exact ⟨h.one.ok, h.one.fine, h.one.dom.few⟩
theorem tell_twice {R : List RN} {W : List (Nat × Int)} {N M : List TN} (h : TellL R W N) (k : TellL R W M) (hN : ∀ n, n ∈ N → n.an = n.ats.length) (hM : ∀ n, n ∈ M → n.an = n.ats.length) : ∀ i, i < W.length → (nodsK N i).d = (nodsK M i).d ∧ (nodsK N i).t = (nodsK M i).t ∧ (nodsK N i).k = (nodsK M i).k ∧ (nodsK N i).x = (nodsK M i).x ∧ (nodsK N i).an = (nodsK M i).an ∧ ∀ j, j < (nodsK M i).an → (nodsK N i).nm j = (nodsK M i).nm j ∧ (nodsK N i).vl j = (nodsK M i).vl j := fun i hi => by
  have hn : i < N.length := by rw [h.1]; exact hi
  have hm : i < M.length := by rw [k.1]; exact hi
  obtain ⟨_, a1, a2, a3, a4, a5⟩ := h.2 i hi hn
  obtain ⟨_, b1, b2, b3, b4, b5⟩ := k.2 i hi hm
  have c1 := hN _ (List.getElem_mem hn)
  have c2 := hM _ (List.getElem_mem hm)
  rw [nodsK_lt hn, nodsK_lt hm]
  refine ⟨a1.trans b1.symm, a2.trans b2.symm, a3.trans b3.symm, a4.trans b4.symm, ?_, fun j _ => ⟨?_, ?_⟩⟩
  · show N[i].an = M[i].an
    rw [c1, c2, a5, b5]
  · show nmOf N[i].ats j = nmOf M[i].ats j
    rw [a5, b5]
  · show vlOf N[i].ats j = vlOf M[i].ats j
    rw [a5, b5]
theorem wid_facts {R : List RN} {last : Int} (h : DocOk R last) {r : Nat} (hr : r < R.length) (hr1 : R[r].id = 1) : (widP R R.length r).length = (walkP R R.length r 0).length ∧ (widP R R.length r).getD 0 0 = 1 ∧ 0 < (widP R R.length r).length ∧ (widP R R.length r).length ≤ R.length ∧ (widP R R.length r).Nodup := by
  obtain ⟨rk, hU⟩ := h.up
  have e := widP_walk R R.length r 0
  have hl : (widP R R.length r).length = (walkP R R.length r 0).length := by rw [← e, List.length_map]
  have hw := walkK_few h hr 0
  have hc : ∃ l, widP R R.length r = 1 :: l := by
    cases hL : R.length with
    | zero => omega
    | succ f => exact ⟨_, by rw [widP, idAt_lt hr, hr1]⟩
  obtain ⟨l, hc⟩ := hc
  refine ⟨hl, by rw [hc]; rfl, by rw [hc]; simp, by omega, ?_⟩
  rw [← e]
  have hn := walk_nodup hU h.ids R.length r 0 (fitP_all hU hr)
  unfold List.Nodup at hn ⊢
  rw [List.pairwise_map] at hn ⊢
  refine hn.imp_of_mem fun {x y} hx hy hne e => hne ?_
  have h1 := (walk_up h.ids _ _ _ (fitP_all hU hr) x hx).1
  have h2 := (walk_up h.ids _ _ _ (fitP_all hU hr) y hy).1
  rw [idAt_lt h1, idAt_lt h2] at e
  exact h.ids.inj _ _ h1 h2 e
end Go.Proofs.Ytobgcaemnpkbmaa
namespace Go.Proofs.Ytobgcaemnpkbmaa
open Go.RowKit
set_option maxHeartbeats 2000000 in
set_option maxRecDepth 100000 in
theorem robust_bad (ao : Option Addr) (n c : Nat) (L : Nat → Nod) (po : Option Addr) (m pc : Nat) (w : World) (hn : n ≤ maxLen) (hL : ListAt w ao n L) (hz : (checkOut (mayB L) n).1 ≠ 0) :
    Calls Try.prog 4 #[.slice ao n c, .slice po m pc] w fun e w' => e = .returned (.bool true) ∧ Below w.heap.size w w' := by
  have HK := hide (known_any w)
  have HN : Hid (∀ w1, Below w.heap.size w w1 → Calls Try.prog 14 #[.slice ao n c] w1 fun e w' => e = .returned (.tuple #[.pointer none, .int .i64 (checkOut (mayB L) n).1, .int .i64 (checkOut (mayB L) n).2]) ∧ Below w.heap.size w w') := hide fun w1 hb => (dnew_bad ao n c L w1 hn (hL.below hb) hz).mono fun _ _ ⟨h1, h2⟩ => ⟨h1, hb.trans (h2.mono hb.size)⟩
  generalize (checkOut (mayB L) n).2 = at' at *
  generalize (checkOut (mayB L) n).1 = no at *
  have hne : (no == 0) = false := beq_eq_false_iff_ne.2 hz
  clear hL hn hz
  go_enter Try.func4, Try.ntmps4
  go_wp2_with (first | (go_at_call 13; refine (unhide HK).mono ?_; rintro e w1 ⟨rfl, hb1⟩; have HB := hide hb1; clear hb1) | (go_at_call 14; refine (unhide HN _ HB.out).mono ?_; clear HB; rintro e w2 ⟨rfl, hb2⟩; have HB := hide hb2; clear hb2))
  go_ret
  exact ⟨rfl, HB.out⟩
end Go.Proofs.Ytobgcaemnpkbmaa
