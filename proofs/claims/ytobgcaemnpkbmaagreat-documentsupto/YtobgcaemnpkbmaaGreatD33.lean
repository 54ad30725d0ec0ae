/- Pts Prt -/
import Derived.Test.YtobgcaemnpkbmaaGreatD32
namespace Go.Proofs.YtobgcaemnpkbmaaGreat
open Go.RowKit
def TellL (R : List RN) (W : List (Nat × Int)) (N : List TN) : Prop := N.length = W.length ∧ ∀ i, (hi : i < W.length) → (hn : i < N.length) → tellP R W[i] N[i]
theorem TellL.nil (R : List RN) : TellL R [] [] := ⟨rfl, fun _ hi => absurd hi (Nat.not_lt_zero _)⟩
theorem TellL.app {R : List RN} {W W' : List (Nat × Int)} {N N' : List TN} (h : TellL R W N) (h' : TellL R W' N') : TellL R (W ++ W') (N ++ N') := by
  refine ⟨by rw [List.length_append, List.length_append, h.1, h'.1], fun i hi hn => ?_⟩
  by_cases hlt : i < W.length
  · rw [List.getElem_append_left hlt, List.getElem_append_left (by rw [h.1]; exact hlt)]
    exact h.2 i hlt _
  · have h1 := h.1
    rw [List.length_append] at hi hn
    rw [List.getElem_append_right (by omega), List.getElem_append_right (by omega)]
    have := h'.2 (i - W.length) (by omega) (by omega)
    simp only [h1]
    exact this
theorem TellL.one {R : List RN} {x : Nat × Int} {n : TN} (h : tellP R x n) : TellL R [x] [n] := ⟨rfl, fun i hi hn => by
  have : i = 0 := by simpa using hi
  subst this
  exact h⟩
structure PartsAt (B : Nat) (w : World) (pv : Value) (Ns : List (Value × List TN)) : Prop where
  row : w.ownsRow B 24 1 pv Ns.length (Ns.map (·.1))
  tell : ∀ p, p ∈ Ns → TellAt B w p.1 p.2
  off : ∀ p, p ∈ Ns → (p.1.ownBlock = none ∨ p.1.ownBlock ≠ pv.ownBlock) ∧ ∀ n, n ∈ p.2 → n.av.ownBlock = none ∨ n.av.ownBlock ≠ pv.ownBlock
  far : (allN Ns).Pairwise fun m n => n.av.ownBlock = none ∨ n.av.ownBlock ≠ m.av.ownBlock
theorem PartsAt.nil (B : Nat) (w : World) : PartsAt B w (.slice none 0 0) [] := ⟨World.ownsRow_nil _ _ _ _, fun _ h => by simp at h, fun _ h => by simp at h, List.Pairwise.nil⟩
theorem PartsAt.below {B : Nat} {w w' : World} {pv : Value} {Ns : List (Value × List TN)} (h : PartsAt B w pv Ns) (hb : Below w.heap.size w w') : PartsAt B w' pv Ns :=
  ⟨ownsRow_below h.row hb, fun p hp => (h.tell p hp).below hb, h.off, h.far⟩
theorem TellAt.kept {B : Nat} {w w' : World} {q : Value} {N : List TN} (h : TellAt B w q N) {row : Option Nat} (hg : w.grownBy w' row) (h1 : q.ownBlock = none ∨ q.ownBlock ≠ row) (h2 : ∀ n, n ∈ N → n.av.ownBlock = none ∨ n.av.ownBlock ≠ row) : TellAt B w' q N :=
  ⟨h.row.kept hg h1, fun n hn => ⟨(h.node n hn).an, (h.node n hn).tag, (h.node n hn).text, (h.node n hn).row.kept hg (h2 n hn), (h.node n hn).size, (h.node n hn).ne⟩, h.far⟩
theorem TellAt.ge {B B' : Nat} {w : World} {q : Value} {N : List TN} (h : TellAt B w q N) (hB : B' ≤ B) : TellAt B' w q N :=
  ⟨own_ge h.row hB, fun n hn => ⟨(h.node n hn).an, (h.node n hn).tag, (h.node n hn).text, own_ge (h.node n hn).row hB, (h.node n hn).size, (h.node n hn).ne⟩, h.far⟩
theorem PartsAt.snoc {B : Nat} {w w2 w3 w4 : World} {pv pv2 q : Value} {Ns : List (Value × List TN)} {N : List TN} (h : PartsAt B w pv Ns) (hB : B ≤ w.heap.size) (hb2 : Below w.heap.size w w2) (hT : TellAt w.heap.size w2 q N) (hb3 : Below w2.heap.size w2 w3) (hg : Grew w3 w4 pv pv2) (hrow : w4.ownsRow B 24 1 pv2 (Ns.length + 1) (Ns.map (·.1) ++ [q])) : PartsAt B w4 pv2 (Ns ++ [(q, N)]) := by
  have hpl : ∀ b, pv.ownBlock = some b → b < w.heap.size := fun b e => (h.row.lt b e).2
  have far1 : ∀ {v : Value}, (∀ b, v.ownBlock = some b → w.heap.size ≤ b ∧ b < w2.heap.size) → (v.ownBlock = none ∨ v.ownBlock ≠ pv.ownBlock) ∧ v.ownBlock ≠ some w3.heap.size := fun {v} hv => by
    cases hvb : v.ownBlock with
    | none => exact ⟨.inl rfl, by simp⟩
    | some b =>
      have := hv b hvb
      refine ⟨.inr fun e => ?_, fun e => ?_⟩
      · have := hpl b e.symm
        omega
      · have e := Option.some.inj e
        have := hb3.size
        omega
  have farOld : ∀ {v : Value}, (∀ b, v.ownBlock = some b → b < w.heap.size) → v.ownBlock ≠ some w3.heap.size := fun {v} hv e => by
    have := hv _ e
    have := hb2.size
    have := hb3.size
    omega
  have fq := far1 (v := q) fun b e => hT.row.lt b e
  have fn : ∀ n, n ∈ N → (n.av.ownBlock = none ∨ n.av.ownBlock ≠ pv.ownBlock) ∧ n.av.ownBlock ≠ some w3.heap.size := fun n hn => far1 fun b e => (hT.node n hn).row.lt b e
  refine ⟨by rw [List.length_append, List.map_append]; exact hrow, fun p hp => ?_, fun p hp => ?_, ?_⟩
  · rcases List.mem_append.1 hp with hp | hp
    · exact (((h.tell p hp).below hb2).below hb3).kept hg.by (h.off p hp).1 (h.off p hp).2
    · rw [List.mem_singleton.1 hp]
      exact ((hT.ge hB).below hb3).kept hg.by fq.1 fun n hn => (fn n hn).1
  · rcases List.mem_append.1 hp with hp | hp
    · exact ⟨grow_ne hg (h.off p hp).1 (farOld fun b e => ((h.tell p hp).row.lt b e).2), fun n hn => grow_ne hg ((h.off p hp).2 n hn) (farOld fun b e => (((h.tell p hp).node n hn).row.lt b e).2)⟩
    · rw [List.mem_singleton.1 hp]
      exact ⟨grow_ne hg fq.1 fq.2, fun n hn => grow_ne hg (fn n hn).1 (fn n hn).2⟩
  · have e : allN (Ns ++ [(q, N)]) = allN Ns ++ N := by unfold allN; simp
    rw [e, List.pairwise_append]
    refine ⟨h.far, hT.far, fun m hm n hn => ?_⟩
    obtain ⟨p, hp, hm⟩ := List.mem_flatMap.1 hm
    cases hv : n.av.ownBlock with
    | none => exact .inl rfl
    | some b =>
      right
      intro e
      have h1 := ((hT.node n hn).row.lt b hv).1
      have h2 := (((h.tell p hp).node m hm).row.lt b e.symm).2
      omega
end Go.Proofs.YtobgcaemnpkbmaaGreat
namespace Go.Proofs.YtobgcaemnpkbmaaGreat
open Go.RowKit
theorem nlInfo : (Tryz.prog.info? 24).map (fun i => (i.zero, i.size, i.bytes)) = some (some (.slice none 0 0), 1, 24) := by kernel_rfl
def PartPost (R : List RN) (W : List (Nat × Int)) (B : Nat) (w : World) (e : Ending) (w' : World) : Prop := ∃ q N, e = .returned q ∧ TellAt B w' q N ∧ TellL R W N ∧ Below w.heap.size w w'
theorem add_zero' (g k : Nat) : (⟨g, 0, none⟩ : Addr).add k = ⟨g, k, none⟩ := by
  by_cases hk0 : k = 0
  · subst hk0; simp [Addr.add]
  · simp [Addr.add, hk0]
theorem row_news {w : World} {B n c size : Nat} {e : TypeId} {ao : Option Addr} {xs : List Value} (h : w.ownsRow B e size (.slice ao n c) n xs) {x : Addr} (hx : ao = some x) {k : Nat} {u : Value} (hu : xs[k]? = some u) : w.cell? (x.add k) = some u := by
  have hk := (List.getElem?_eq_some_iff.1 hu).1
  rw [h.1] at hk
  rcases h.2 with ⟨e, _⟩ | ⟨g, cap, cur, e, _⟩
  · rw [hx] at e; cases (Value.slice.inj e).1
  · rw [hx] at e
    have e := Option.some.inj (Value.slice.inj e).1
    subst e
    rw [hx] at h
    have := h.cellAt k hk
    rw [hu] at this
    rw [add_zero']
    exact this
set_option maxHeartbeats 4000000 in
set_option maxRecDepth 100000 in
theorem part_step (ρ : Roles) (nb : Int → Nat) (mb : Nat) (rt : Option Nat) (q : Nat) (R : List RN) (last : Int) (f a : Nat) (d : Int) (w : World) (h : Dom ρ nb mb rt w q R last) (ha : a < R.length) (hpos : ∀ n, n ∈ R → 0 < n.id) (hd0 : 0 ≤ d) (hd1 : d ≤ 1000000) (hlen : (walkP R (f + 1) a d).length ≤ 1000000)
    (ih : ∀ i, (hi : i < (kidsP R R[a].id).length) → ∀ w1, Below w.heap.size w w1 → Calls Tryz.prog 66 #[.pointer (some ⟨nb (idAt R (kidsP R R[a].id)[i]), 0, none⟩), .int .i64 (d + 1)] w1 (PartPost R (walkP R f (kidsP R R[a].id)[i] (d + 1)) w1.heap.size w1)) :
    Calls Tryz.prog 66 #[.pointer (some ⟨nb R[a].id, 0, none⟩), .int .i64 d] w (PartPost R (walkP R (f + 1) a d) w.heap.size w) := by
  obtain ⟨i0, hi, hz0, hz1, hz2⟩ := info_parts nlInfo
  obtain ⟨j0, hj, hy0, hy1, hy2⟩ := info_parts attrInfo'
  have hm : R[a] ∈ R := List.getElem_mem ha
  obtain ⟨av, kv, hP⟩ := h.node _ hm
  have hp := hpos _ hm
  have hkl : (kidsP R R[a].id).length = (kidIds R R[a].id).length := by rw [← kids_ids R (by omega), List.length_map]
  have hkid : ∀ i, (hi : i < (kidsP R R[a].id).length) → (kidIds R R[a].id)[i]? = some (idAt R (kidsP R R[a].id)[i]) := fun i hi => by rw [← kids_ids R (by omega), List.getElem?_map, List.getElem?_eq_getElem hi]; rfl
  obtain ⟨KO, KC, hread⟩ := h.kids_read
  obtain ⟨c6, hcells⟩ := hread _ hm
  have c1 : w.cell? ⟨nb R[a].id, 1, none⟩ = some (.int .i64 R[a].key) := cell_of_blk hP.blk 1 _ rfl
  have c2 : w.cell? ⟨nb R[a].id, 2, none⟩ = some (.string R[a].tag) := cell_of_blk hP.blk 2 _ rfl
  have c3 : w.cell? ⟨nb R[a].id, 3, none⟩ = some (.string R[a].text) := cell_of_blk hP.blk 3 _ rfl
  obtain ⟨ao, ac, rfl⟩ := own_shape hP.arow
  have c4 : w.cell? ⟨nb R[a].id, 4, none⟩ = some (.slice ao R[a].ats.length ac) := cell_of_blk hP.blk 4 _ rfl
  have hW : walkP R (f + 1) a d = (a, d) :: (kidsP R R[a].id).flatMap fun k => walkP R f k (d + 1) := by rw [walkP, idAt_lt ha]
  have ltN := hP.lt
  have HKid : Hid (∀ i, (hi : i < (kidsP R R[a].id).length) → ∀ wr, Below w.heap.size w wr → ∃ g, KO R[a].id = some ⟨g, 0, none⟩ ∧ wr.cell? ⟨g, i, none⟩ = some (.pointer (some ⟨nb (idAt R (kidsP R R[a].id)[i]), 0, none⟩))) := hide fun i hi wr hb => by
    obtain ⟨g, e, hρ, hc⟩ := hcells i _ (hkid i hi)
    exact ⟨g, e, (hb.cell (p := ⟨g, i, none⟩) (h.low g (by rw [hρ]; rfl))).trans hc⟩
  have HIh := hide ih
  have HAr : Hid (w.ownsRow 0 72 2 (.slice ao R[a].ats.length ac) R[a].ats.length (attrCells R[a].ats)) := hide hP.arow
  have HSz := hide hP.size
  have HTag := hide hP.tag
  have HText := hide hP.text
  have hfew := hP.few
  have hklen := kidIds_length R R[a].id
  have hRf := h.few
  have HKl := hide hkl
  have HW := hide hW
  have HLen := hide hlen
  clear hread hcells hP h ih hkid hkl hW hpos hlen
  generalize hNA : nb R[a].id = NA at *
  generalize hKn : (kidIds R R[a].id).length = KN at *
  have hKN8 : KN ≤ 800 := by omega
  generalize hats : R[a].ats = ats at *
  have HAts := hide hats
  generalize hlA : ats.length = AL at *
  have HAl := hide hlA
  clear hNA hKn hlA hats
  go_enter Tryz.func66, Tryz.ntmps66
  go_wp2_with fail
  go_loopw [5, 7, 14] (fun pvv _ i wr => ∃ (j : Nat) (pv : Value) (Ns : List (Value × List TN)), j ≤ KN ∧ pv = pvv ∧ i = .int .i64 j ∧ Hid (Ns.length = j) ∧ Hid (PartsAt w.heap.size wr pv Ns) ∧ Hid (TellL R (((kidsP R R[a].id).take j).flatMap fun k => walkP R f k (d + 1)) (allN Ns)) ∧ Hid (Below w.heap.size w wr)) (fun _ _ i _ => KN - (intOf i).toNat)
  case atStart => exact ⟨0, _, [], Nat.zero_le _, rfl, rfl, hide rfl, hide (PartsAt.nil _ _), hide (TellL.nil _), hide (Below.refl _ _)⟩
  case round =>
    obtain ⟨j, pv, Ns, hjk, rfl, rfl, hNl, hparts, htell, hbel⟩ := hrel
    by_cases hlt : j < KN
    · have hjl : j < (kidsP R R[a].id).length := by have := HKl.out; omega
      obtain ⟨g, hg, cj⟩ := HKid.out j hjl wr hbel.out
      have HC := hide (HIh.out j hjl wr hbel.out)
      have hji : (j : Int) < (KN : Int) := by omega
      rw [hg]
      have hsz := hbel.out.size
      have HRow : Hid (∀ w2 w3, Below wr.heap.size wr w2 → Below w2.heap.size w2 w3 → w3.ownsRow w.heap.size 24 1 pv j (Ns.map (·.1))) := hide fun w2 w3 h2 h3 => by
        have := ownsRow_below (ownsRow_below hparts.out.row h2) h3
        rwa [hNl.out] at this
      generalize hIA : idAt R (kidsP R R[a].id)[j] = IA at *
      clear hIA
      go_wp2_with (first | (go_at_call 66; refine (unhide HC).mono ?_; rintro e w2 ⟨q2, N2, rfl, hT2, hL2, hb2⟩; obtain ⟨qo, qc, rfl⟩ := own_shape hT2.row; have HT2 := hide hT2; have HL2 := hide hL2; have HB2 := hide hb2; have hs2 := hb2.size; clear hT2 hL2 hb2) | (at_builtin; refine wpList_app _ rfl (.tmp 18) (.tmp 23) 38 rfl w.heap.size 24 i0 _ 1 24 Tryz.underlying38 hi hz0 hz1 hz2 rfl pv j (Ns.map (·.1)) rfl (unhide HRow _ _ (unhide HB2) ((Below.refl _ _).alloc (Nat.le_refl _) _)) (some ⟨w2.heap.size, 0, none⟩) 1 1 [.slice qo N2.length qc] rfl (by simp) rfl (cells_new _ _ _) (by simp [Value.oneCell']) (by omega) (by omega) (by simp; omega) ?_; intro pv2 w4 ho4 hg4 _))
      have hb3 : Below w2.heap.size w2 (w2.alloc (.cells #[.slice qo N2.length qc] 24)) := (Below.refl _ _).alloc (Nat.le_refl _) _
      refine ⟨⟨j + 1, pv2, Ns ++ [(.slice qo N2.length qc, N2)], by omega, rfl, by go_num, hide (by simp [hNl.out]), hide (hparts.out.snoc hsz HB2.out HT2.out hb3 hg4.out (by rw [hNl.out]; exact ho4.out)), hide ?_, hide ?_⟩, by simp [intOf]; omega⟩
      · have e1 : allN (Ns ++ [(Value.slice qo N2.length qc, N2)]) = allN Ns ++ N2 := by unfold allN; simp
        rw [List.take_succ_eq_append_getElem hjl, List.flatMap_append, e1]
        refine htell.out.app ?_
        have := HL2.out
        simpa using this
      · have hb2' : Below w.heap.size wr w2 := HB2.out.mono hsz
        exact ((hbel.out.trans hb2').alloc (by omega) _).grown hg4.out.by (by simp; omega) (fun b hb => (hparts.out.row.lt b hb).1)
    · have hjK : j = KN := by omega
      subst hjK
      have hall : (kidsP R R[a].id).take j = kidsP R R[a].id := by rw [← HKl.out, List.take_length]
      rw [hall] at htell
      have d1 := (hbel.out.cell (p := ⟨NA, 1, none⟩) ltN).trans c1
      have d2 := (hbel.out.cell (p := ⟨NA, 2, none⟩) ltN).trans c2
      have d3 := (hbel.out.cell (p := ⟨NA, 3, none⟩) ltN).trans c3
      have d4 := (hbel.out.cell (p := ⟨NA, 4, none⟩) ltN).trans c4
      have hsz := hbel.out.size
      have HAr' : Hid (wr.ownsRow 0 72 2 (.slice ao AL ac) AL (attrCells ats)) := hide (ownsRow_below HAr.out hbel.out)
      have HNone : Hid (ao = none → AL = 0 ∧ ac = 0) := hide fun e => by
        rcases HAr'.out.2 with ⟨e1, e2⟩ | ⟨g, cap, cur, e1, _⟩
        · exact ⟨e2, (Value.slice.inj e1).2.2⟩
        · rw [e] at e1; cases (Value.slice.inj e1).1
      have HNews : Hid (∀ x, ao = some x → ∀ k u, (attrCells ats)[k]? = some u → wr.cell? (x.add k) = some u) := hide fun x hx k u hu => row_news HAr'.out hx hu
      have HL : Hid ((attrCells ats).length = AL * 2) := hide HAr'.out.1
      have HOne : Hid (∀ u ∈ attrCells ats, u.oneCell' = true) := hide (attrCells_one ats)
      clear c1 c2 c3 c4 c6
      go_wp2_with (first | (at_builtin; refine wpList_app _ rfl (.const (.slice none 0 0)) (.tmp 29) 31 rfl wr.heap.size 72 j0 _ 2 32 Tryz.underlying31 hj hy0 hy1 hy2 rfl (.slice none 0 0) 0 [] rfl (World.ownsRow_nil _ _ _ _) ao AL ac (attrCells ats) rfl (unhide HNone) (unhide HL) (unhide HNews) (unhide HOne) (by omega) (by omega) (by omega) ?_; intro av2 w4 ho4 hg4 _))
      have ho5 := ho4.out
      rw [Nat.zero_add, List.nil_append] at ho5
      obtain ⟨ao2, ac2, rfl⟩ := own_shape ho5
      have hb4 : Below wr.heap.size wr w4 := ⟨hg4.out.by.os, hg4.out.by.tape, hg4.out.by.output, hg4.out.by.size, fun b hb => hg4.out.by.block b hb (by simp [Value.ownBlock])⟩
      have hs4 := hb4.size
      have hprow := hparts.out.row
      rw [hNl.out] at hprow
      obtain ⟨po, pc, rfl⟩ := own_shape hprow
      have hbw4 : Below w.heap.size w w4 := hbel.out.trans (hb4.mono hsz)
      have HJ : Hid (∀ w5, Below w4.heap.size w4 w5 → Calls Tryz.prog 84 #[.agg #[.int .i64 d, .string R[a].tag, .int .i64 R[a].key, .slice ao2 AL ac2, .string R[a].text], .slice po j pc] w5 fun e w' => PartPost R (walkP R (f + 1) a d) w.heap.size w e w' ∧ Below w5.heap.size w5 w') := hide fun w5 hb5 => by
        have hs5 := hb5.size
        have hP5 := (hparts.out.below hb4).below hb5
        have ho6 := ownsRow_below ho5 hb5
        have hlen2 : (allN Ns).length + 1 ≤ 1000000 := by
          have h1 := htell.out.1
          have h2 := HLen.out
          rw [HW.out, List.length_cons, ← h1] at h2
          exact h2
        refine (join_any w.heap.size w5 ⟨d, R[a].tag, R[a].key, R[a].text, ats, ao2, AL, ac2⟩ po pc Ns j hNl.out (by omega) (fun i hi => ?_) (fun x hx => ?_) (fun i hi => hP5.tell _ (List.getElem_mem hi)) ⟨HAl.out.symm, HTag.out, HText.out, own_ge ho6 (by omega), HSz.out, ?_⟩ ?_ (by omega) (by omega)).mono ?_
        · have hr := hP5.row
          have hget : (Ns.map (·.1))[i]? = some Ns[i].1 := by rw [List.getElem?_map, List.getElem?_eq_getElem hi]; rfl
          rw [hNl.out] at hr
          rcases hr.2 with ⟨e, h0⟩ | ⟨g, cap, cur, e, _⟩
          · have := hNl.out; omega
          · have e1 := (Value.slice.inj e).1
            refine ⟨g, e1, ?_⟩
            have := row_news hr e1 hget
            rwa [add_zero'] at this
        · have hr := hP5.row
          subst hx
          exact (hr.lt x.block rfl).2
        · cases (TN.av ⟨d, R[a].tag, R[a].key, R[a].text, ats, ao2, AL, ac2⟩).ownBlock with
          | none => exact .inl rfl
          | some b => exact .inr (by simp [Value.ownBlock])
        · rw [List.pairwise_cons]
          refine ⟨fun n hn => ?_, hparts.out.far⟩
          obtain ⟨p, hp, hn⟩ := List.mem_flatMap.1 hn
          cases hv : n.av.ownBlock with
          | none => exact .inl rfl
          | some b =>
            right
            intro e
            have h1 := (((hparts.out.tell p hp).node n hn).row.lt b hv).2
            have h2 := (ho5.lt b e.symm).1
            omega
        · rintro e w' ⟨q', rfl, hT, hb', _⟩
          refine ⟨⟨q', _, rfl, hT, ?_, (hbw4.trans (hb5.mono (by omega))).trans (hb'.mono (by omega))⟩, hb'⟩
          rw [HW.out]
          exact (TellL.one ⟨ha, rfl, rfl, rfl, rfl, HAts.out.symm⟩).app htell.out
      have e1 := (hb4.cell (p := ⟨NA, 1, none⟩) (by show NA < _; omega)).trans d1
      have e2 := (hb4.cell (p := ⟨NA, 2, none⟩) (by show NA < _; omega)).trans d2
      have e3 := (hb4.cell (p := ⟨NA, 3, none⟩) (by show NA < _; omega)).trans d3
      have lt4 : NA < w4.heap.size := by omega
      clear hprow hbw4 hb4 ho5 ho4 hg4 hparts d1 d2 d3 d4
      generalize R[a].key = K1 at *
      generalize R[a].tag = K2 at *
      generalize R[a].text = K3 at *
      go_region_held3 (fun w' => w'.cell? ⟨NA, 1, none⟩ = some (.int .i64 K1) ∧ w'.cell? ⟨NA, 2, none⟩ = some (.string K2) ∧ w'.cell? ⟨NA, 3, none⟩ = some (.string K3))
        (first
          | go_keep
          | (go_split_ands
             refine ⟨?_, ?_, ?_⟩
             all_goals (rw [hb6.cell (by simp; omega)]; assumption)))
        (first | (go_at_call 84; refine (unhide HJ _ ((Below.refl _ _).drew)).mono ?_; rintro e w6 ⟨⟨q6, N6, rfl, hT6, hL6, hB6⟩, hb6⟩))
      have HP6 : Hid (PartPost R (walkP R (f + 1) a d) w.heap.size w (.returned q6) w6) := hide ⟨q6, N6, rfl, hT6, hL6, hB6⟩
      clear hT6 hL6 hB6 hb6
      go_wp2_with fail
      go_ret
      exact HP6.out
theorem part_any (ρ : Roles) (nb : Int → Nat) (mb : Nat) (rt : Option Nat) (q : Nat) (R : List RN) (last : Int) (hI : Ids R) (hU : ∃ rk, Up R rk) : ∀ (f a : Nat) (d : Int) (w : World), Dom ρ nb mb rt w q R last → fitP R f a → 0 ≤ d → d + f ≤ 1000000 →
    Calls Tryz.prog 66 #[.pointer (some ⟨nb (idAt R a), 0, none⟩), .int .i64 d] w (PartPost R (walkP R f a d) w.heap.size w) := by
  obtain ⟨rk, hU⟩ := hU
  intro f
  induction f with
  | zero => intro a d w _ h; exact h.elim
  | succ f ih =>
    intro a d w h hfit hd0 hd1
    have hlen := walk_length (d := d) hU hI hfit
    have hfew := h.few
    obtain ⟨ha, hk⟩ := hfit
    rw [idAt_lt ha]
    rw [idAt_lt ha] at hk
    exact part_step ρ nb mb rt q R last f a d w h ha hI.pos hd0 (by omega) (by omega) fun i hi w1 hb => ih _ (d + 1) w1 (h.below hb) (hk _ (List.getElem_mem hi)) (by omega) (by omega)
set_option maxHeartbeats 1000000 in
theorem ptree_any (ρ : Roles) (nb : Int → Nat) (mb : Nat) (w : World) (q : Nat) (R : List RN) (last : Int) (h : Dom ρ nb mb (some (nb 1)) w q R last) (hok : DocOk R last) (r : Nat) (hr : r < R.length) (hr1 : R[r].id = 1) :
    Calls Tryz.prog 46 #[.pointer (some ⟨q, 0, none⟩)] w (PartPost R (walkP R R.length r 0) w.heap.size w) := by
  have d0 : w.cell? ⟨q, 0, none⟩ = some (.pointer (some ⟨nb 1, 0, none⟩)) := cell_of_blk h.blk 0 _ rfl
  have HC : Hid (Calls Tryz.prog 66 #[.pointer (some ⟨nb 1, 0, none⟩), .int .i64 0] w (PartPost R (walkP R R.length r 0) w.heap.size w)) := by
    obtain ⟨rk, hU⟩ := hok.up
    have hfew := h.few
    have := part_any ρ nb mb _ q R last hok.ids hok.up R.length r 0 w h (fitP_all hU hr) (by omega) (by omega)
    rw [idAt_lt hr, hr1] at this
    exact hide this
  clear h hok hr1
  go_enter Tryz.func46, Tryz.ntmps46
  go_wp2_with (first | (go_at_call 66; refine (unhide HC).mono ?_; rintro e w2 ⟨q2, N2, rfl, h2⟩))
  go_ret
  exact ⟨q2, N2, rfl, h2⟩
end Go.Proofs.YtobgcaemnpkbmaaGreat
