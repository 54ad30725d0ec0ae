/- Lk Law Lm Ln -/
import Derived.Test.YtobgcaemnpkbmaaGreatD42
import Derived.Test.YtobgcaemnpkbmaaGreatD37
import Derived.Test.YtobgcaemnpkbmaaGreatD36
import Derived.Test.YtobgcaemnpkbmaaGreatD41
import Derived.Test.YtobgcaemnpkbmaaGreatD14
namespace Go.Proofs.YtobgcaemnpkbmaaGreat
open Go.RowKit
theorem pair_below {W0 : World} {own : Owns} {w w' : World} {wb : Nat} {Ps : List PD} {m : Nat} {k : Int} (h : LawOk W0 own w wb Ps m k) (hb : Below w.heap.size w w') {i : Nat} (hi : i < Ps.length) : PairOk own i w' Ps[i] :=
  (h.below (Nat.le_refl m) (Int.le_refl k) hb).pair i hi
theorem dom_few {own : Owns} {i : Nat} {w : World} {D : PD} (h : PairOk own i w D) : ∀ n, n ∈ D.R → n.ats.length ≤ 5 := fun n hn => by
  obtain ⟨av, kv, hp⟩ := h.dom.node n hn
  exact hp.few
set_option maxHeartbeats 2000000 in
set_option maxRecDepth 100000 in
theorem asked_tree (W0 : World) (own : Owns) (w : World) (wb : Nat) (Ps : List PD) (m : Nat) (k : Int) (h : LawOk W0 own w wb Ps m k) (hm : m ≤ 400000000) (i : Nat) (hi : i < Ps.length) :
    Calls Tryz.prog 17 #[.pointer (some ⟨wb, 0, none⟩), .pointer (some ⟨Ps[i].pb, 0, none⟩), .int .i64 2] w fun e w' => e = .returned (.bool true) ∧ ∃ own', LawOk W0 own' w' wb Ps (m + 1) k := by
  have hp := h.pair i hi
  have HP : Hid (∀ w', Below w.heap.size w w' → PairOk own i w' Ps[i]) := hide fun w' hb => pair_below h hb hi
  have HK : Hid (∀ w' l N, Below w.heap.size w w' → TellAt w.heap.size w' l N → N.length ≤ 1000000 → (∀ n, n ∈ N → n.ats.length ≤ 5) → Calls Tryz.prog 28 #[.pointer (some ⟨wb, 1, none⟩), l] w' fun e w2 => e = .returned (.tuple #[]) ∧ ∃ own', LawOk W0 own' w2 wb Ps (m + 1) k) := hide fun w' l N hb hl hN hf => keepNodes_law W0 own w w' wb Ps m k h hm hb hl hN hf
  clear h
  generalize Ps[i] = D at *
  obtain ⟨r, hr, hr1, hat⟩ := atP_root hp.ok
  have x0 : w.cell? ⟨D.pb, 0, none⟩ = some (.pointer (some ⟨D.db, 0, none⟩)) := cell_of_blk hp.pblk 0 _ rfl
  have HT := hide (pair_tree hp hr hr1)
  have HU : Hid (∀ w1, Below w.heap.size w w1 → Calls Tryz.prog 27 #[.pointer (some ⟨D.p, 0, none⟩)] w1 fun e w' => ∃ q N, e = .returned q ∧ TellAt w1.heap.size w' q N ∧ TellL D.R (walkP D.R D.R.length r 0) N ∧ Below w1.heap.size w1 w') := hide fun w1 hb => pair_rtree (HP.out w1 hb) hr hat
  have HX1 : Hid (∀ w1, Below w.heap.size w w1 → w1.cell? ⟨D.pb, 1, none⟩ = some (.pointer (some ⟨D.p, 0, none⟩))) := hide fun w1 hb => cell_of_blk (HP.out w1 hb).pblk 1 _ rfl
  have HW : Hid ((walkP D.R D.R.length r 0).length ≤ 1000000 ∧ ∀ n, n ∈ D.R → n.ats.length ≤ 5) := hide ⟨by have := walk_few hp.ok hr 0; have := hp.dom.few; omega, dom_few hp⟩
  clear hp hr1 hat HP
  generalize walkP D.R D.R.length r 0 = WW at *
  generalize D.pb = PB at *
  generalize D.p = PP at *
  generalize D.db = DB at *
  generalize D.R = R at *
  go_enter Tryz.func17, Tryz.ntmps17
  go_wp2_with fail
  refine (unhide HT).mono ?_
  rintro e w1 ⟨v1, rfl, N1, hT1, hL1, hb1⟩
  obtain ⟨a1, c1, rfl⟩ := own_shape hT1.row
  have x1 := HX1.out w1 hb1
  have HB1 := hide hb1
  have HT1 := hide hT1
  have HL1 := hide hL1
  clear hb1 hT1 hL1 HT
  go_wp2_with fail
  refine (unhide HU w1 HB1.out).mono ?_
  rintro e w2 ⟨v2, N2, rfl, hT2, hL2, hb2⟩
  obtain ⟨a2, c2, rfl⟩ := own_shape hT2.row
  have HB2 := hide hb2
  have HS := hide (same_tell (HT1.out.below hb2) hT2 HL1.out hL2 HW.out.1 HW.out.2)
  clear hb2 hT2 hL2 HU
  go_wp2_with fail
  refine (unhide HS).mono ?_
  rintro e w3 ⟨rfl, hb3⟩
  have HB3 := hide hb3
  clear hb3 HS
  have HK3 : Hid (Calls Tryz.prog 28 #[.pointer (some ⟨wb, 1, none⟩), .slice a1 N1.length c1] w3 fun e w2 => e = .returned (.tuple #[]) ∧ ∃ own', LawOk W0 own' w2 wb Ps (m + 1) k) := by
    have hb13 : Below w1.heap.size w1 w3 := HB2.out.trans (HB3.out.mono HB2.out.size)
    exact hide (HK.out w3 _ N1 (HB1.out.trans (hb13.mono HB1.out.size)) (HT1.out.below hb13) (by rw [HL1.out.1]; exact HW.out.1) (tell_few HL1.out HW.out.2))
  clear HK HX1 HB1 HB2 HB3 HL1 HT1 HW
  go_wp2_with fail
  refine (unhide HK3).mono ?_
  rintro e w4 ⟨rfl, own', hlaw⟩
  go_wp2_with fail
  go_ret
  exact ⟨rfl, own', hlaw⟩
set_option maxHeartbeats 2000000 in
set_option maxRecDepth 100000 in
theorem asked_ids (W0 : World) (own : Owns) (w : World) (wb : Nat) (Ps : List PD) (m : Nat) (k : Int) (h : LawOk W0 own w wb Ps m k) (hm : m ≤ 400000000) (i : Nat) (hi : i < Ps.length) :
    Calls Tryz.prog 17 #[.pointer (some ⟨wb, 0, none⟩), .pointer (some ⟨Ps[i].pb, 0, none⟩), .int .i64 3] w fun e w' => e = .returned (.bool true) ∧ ∃ own', LawOk W0 own' w' wb Ps (m + 1) k := by
  have hp := h.pair i hi
  have HP : Hid (∀ w', Below w.heap.size w w' → PairOk own i w' Ps[i]) := hide fun w' hb => pair_below h hb hi
  have HK : Hid (∀ w' l n xs, Below w.heap.size w w' → w'.ownsRow w.heap.size 3 1 l n xs → n ≤ 1000000 → Calls Tryz.prog 31 #[.pointer (some ⟨wb, 1, none⟩), l] w' fun e w2 => e = .returned (.tuple #[]) ∧ ∃ own', LawOk W0 own' w2 wb Ps (m + 1) k) := hide fun w' l n xs hb hl hN => keepNumbers_law W0 own w w' wb Ps m k h hm hb hl hN
  clear h
  generalize Ps[i] = D at *
  obtain ⟨r, hr, hr1, hat⟩ := atP_root hp.ok
  have x0 : w.cell? ⟨D.pb, 0, none⟩ = some (.pointer (some ⟨D.db, 0, none⟩)) := cell_of_blk hp.pblk 0 _ rfl
  have HT := hide (pair_ids hp hr hr1)
  have HU : Hid (∀ w1, Below w.heap.size w w1 → Calls Tryz.prog 30 #[.pointer (some ⟨D.p, 0, none⟩)] w1 fun e w' => ∃ v, e = .returned v ∧ w'.ownsRow w1.heap.size 3 1 v (widP D.R D.R.length r).length (ints (widP D.R D.R.length r)) ∧ Below w1.heap.size w1 w') := hide fun w1 hb => pair_rids (HP.out w1 hb) hr hat
  have HX1 : Hid (∀ w1, Below w.heap.size w w1 → w1.cell? ⟨D.pb, 1, none⟩ = some (.pointer (some ⟨D.p, 0, none⟩))) := hide fun w1 hb => cell_of_blk (HP.out w1 hb).pblk 1 _ rfl
  have hW : (widP D.R D.R.length r).length ≤ 1000000 := by
    have h1 := walk_few hp.ok hr 0
    have h2 := hp.dom.few
    have h3 := congrArg List.length (widP_walk D.R D.R.length r 0)
    rw [List.length_map] at h3
    omega
  clear hp hr1 hat HP
  generalize widP D.R D.R.length r = WW at *
  generalize D.pb = PB at *
  generalize D.p = PP at *
  generalize D.db = DB at *
  generalize hn : WW.length = n at *
  have HN := hide hn
  clear hn
  go_enter Tryz.func17, Tryz.ntmps17
  go_wp2_with fail
  refine (unhide HT).mono ?_
  rintro e w1 ⟨v1, rfl, hT1, hb1⟩
  obtain ⟨a1, c1, rfl⟩ := own_shape hT1
  have x1 := HX1.out w1 hb1
  have HB1 := hide hb1
  have HT1 := hide hT1
  clear hb1 hT1 HT
  go_wp2_with fail
  refine (unhide HU w1 HB1.out).mono ?_
  rintro e w2 ⟨v2, rfl, hT2, hb2⟩
  obtain ⟨a2, c2, rfl⟩ := own_shape hT2
  have hg : ∀ j : Nat, j < n → ∃ b1 b2 z, a1 = some ⟨b1, 0, none⟩ ∧ a2 = some ⟨b2, 0, none⟩ ∧ b1 < w2.heap.size ∧ b2 < w2.heap.size ∧ w2.cell? ⟨b1, j, none⟩ = some (.int .i64 z) ∧ w2.cell? ⟨b2, j, none⟩ = some (.int .i64 z) := fun j hj => by
    have h1 := ownsRow_below HT1.out hb2
    have hjW : j < WW.length := by rw [HN.out]; exact hj
    have hz : (ints WW)[j]? = some (.int .i64 WW[j]) := by unfold ints; rw [List.getElem?_map, List.getElem?_eq_getElem hjW]; rfl
    rcases h1.2 with ⟨e, _⟩ | ⟨g1, cap1, cur1, e, _, hg1, _⟩
    · simp at e; omega
    rcases hT2.2 with ⟨e', _⟩ | ⟨g2, cap2, cur2, e', _, hg2, _⟩
    · simp at e'; omega
    simp at e e'
    obtain ⟨rfl, rfl⟩ := e
    obtain ⟨rfl, rfl⟩ := e'
    exact ⟨g1, g2, WW[j], rfl, rfl, (Array.getElem?_eq_some_iff.1 hg1).1, (Array.getElem?_eq_some_iff.1 hg2).1, (h1.cellAt j (by omega)).trans hz, (hT2.cellAt j (by omega)).trans hz⟩
  have HG := hide hg
  have HB2 := hide hb2
  clear hb2 hT2 HU hg
  go_wp2_with fail
  go_loopw [11, 12] (fun ok i wr => ∃ j : Nat, j ≤ n ∧ i = .int .i64 j ∧ ok = .bool true ∧ Hid (Below w2.heap.size w2 wr)) (fun _ i _ => n - (intOf i).toNat)
  case atStart => exact ⟨0, Nat.zero_le _, rfl, rfl, hide (Below.refl _ _)⟩
  case round =>
    obtain ⟨j, hj, rfl, rfl, hbr⟩ := hrel
    by_cases hlt : j < n
    · obtain ⟨b1, b2, z, rfl, rfl, hl1, hl2, q1, q2⟩ := HG.out j hlt
      have p1 := (hbr.out.cell (p := ⟨b1, j, none⟩) hl1).trans q1
      have p2 := (hbr.out.cell (p := ⟨b2, j, none⟩) hl2).trans q2
      have hji : (j : Int) < (n : Int) := by omega
      clear q1 q2
      go_wp2
      go_big_quiet (fail)
      go_wp2
      go_roundw
      case rel => exact ⟨j + 1, by omega, by go_num, rfl, hide (drewN_of hbr.out _)⟩
      case measure => simp [intOf]; omega
    · have hji : ¬ (j : Int) < (n : Int) := by omega
      have HK3 : Hid (Calls Tryz.prog 31 #[.pointer (some ⟨wb, 1, none⟩), .slice a1 n c1] wr fun e w2 => e = .returned (.tuple #[]) ∧ ∃ own', LawOk W0 own' w2 wb Ps (m + 1) k) := by
        have hb13 : Below w1.heap.size w1 wr := HB2.out.trans (hbr.out.mono HB2.out.size)
        exact hide (HK.out wr _ n _ (HB1.out.trans (hb13.mono HB1.out.size)) (ownsRow_below HT1.out hb13) hW)
      clear HK HX1 HB1 HB2 HT1 HG
      go_wp2_with (first | (go_at_call 31; refine (unhide HK3).mono ?_; rintro e w4 ⟨rfl, own', hlaw⟩))
      go_ret
      exact ⟨rfl, own', hlaw⟩
set_option maxHeartbeats 2000000 in
set_option maxRecDepth 100000 in
theorem asked_loose (W0 : World) (own : Owns) (w : World) (wb : Nat) (Ps : List PD) (m : Nat) (k : Int) (h : LawOk W0 own w wb Ps m k) (i : Nat) (hi : i < Ps.length) :
    Calls Tryz.prog 17 #[.pointer (some ⟨wb, 0, none⟩), .pointer (some ⟨Ps[i].pb, 0, none⟩), .int .i64 4] w fun e w' => e = .returned (.bool true) ∧ ∃ own', LawOk W0 own' w' wb Ps (m + 1) k := by
  have hp := h.pair i hi
  have HP : Hid (∀ w', Below w.heap.size w w' → PairOk own i w' Ps[i]) := hide fun w' hb => pair_below h hb hi
  have HL := hide h
  clear h
  generalize Ps[i] = D at *
  obtain ⟨r, hr, hr1, hat⟩ := atP_root hp.ok
  have x0 : w.cell? ⟨D.pb, 0, none⟩ = some (.pointer (some ⟨D.db, 0, none⟩)) := cell_of_blk hp.pblk 0 _ rfl
  have HT := hide (pair_loose hp hr hr1)
  have HU : Hid (∀ w1, Below w.heap.size w w1 → Calls Tryz.prog 30 #[.pointer (some ⟨D.p, 0, none⟩)] w1 fun e w' => ∃ v, e = .returned v ∧ w'.ownsRow w1.heap.size 3 1 v (widP D.R D.R.length r).length (ints (widP D.R D.R.length r)) ∧ Below w1.heap.size w1 w') := hide fun w1 hb => pair_rids (HP.out w1 hb) hr hat
  have HX1 : Hid (∀ w1, Below w.heap.size w w1 → ∃ ao cap, w1.cell? ⟨D.pb, 1, none⟩ = some (.pointer (some ⟨D.p, 0, none⟩)) ∧ w1.cell? ⟨D.p, 0, none⟩ = some (.slice ao D.R.length cap) ∧ D.pb < w1.heap.size ∧ D.p < w1.heap.size) := hide fun w1 hb => by
    have hq := HP.out w1 hb
    obtain ⟨ao, cap, e⟩ := hq.ref.nil
    have hv := hq.ref.c0
    rw [e, bare_len hq.bare] at hv
    exact ⟨ao, cap, cell_of_blk hq.pblk 1 _ rfl, hv, lt_of_blk hq.pblk, hq.ref.lt⟩
  have hW : (widP D.R D.R.length r).length ≤ 1000000 ∧ D.R.length ≤ 1000000 := by
    have h1 := walk_few hp.ok hr 0
    have h2 := hp.dom.few
    have h3 := congrArg List.length (widP_walk D.R D.R.length r 0)
    rw [List.length_map] at h3
    omega
  clear hp hr1 hat HP
  generalize widP D.R D.R.length r = WW at *
  generalize D.pb = PB at *
  generalize D.p = PP at *
  generalize D.db = DB at *
  generalize WW.length = n at *
  generalize D.R.length = N at *
  go_enter Tryz.func17, Tryz.ntmps17
  go_wp2_with fail
  refine (unhide HT).mono ?_
  rintro e w1 ⟨v1, rfl, rfl, hb1⟩
  obtain ⟨ao, cap, x1, x2, l1, l2⟩ := HX1.out w1 hb1
  have HB1 := hide hb1
  clear hb1 HT HX1
  go_wp2_with fail
  go_region_held3 (fun w' => w'.cell? ⟨PB, 1, none⟩ = some (.pointer (some ⟨PP, 0, none⟩)) ∧ w'.cell? ⟨PP, 0, none⟩ = some (.slice ao N cap))
    (first
      | go_keep
      | (go_split_ands
         refine ⟨?_, ?_⟩
         all_goals (rw [hb6.cell (by simp; omega)]; assumption)))
    (first | (go_at_call 30; refine (unhide HU _ HB1.out.drew).mono ?_; rintro e w6 ⟨v6, rfl, ho6, hb6⟩; obtain ⟨a6, c6, rfl⟩ := own_shape ho6))
  go_wp2_with fail
  go_ret
  have hb7 : Below w1.heap.size w1 w6 := (Below.refl w1.heap.size w1).drew.trans hb6
  have hwr : IntKind.i64.wrap ((N : Int) - (n : Int)) = (N : Int) - (n : Int) := wrap_in (by omega) (by omega)
  refine ⟨?_, own, HL.out.below (Nat.le_succ m) (Int.le_refl k) (HB1.out.trans (hb7.mono HB1.out.size))⟩
  rw [hwr]
  simp
end Go.Proofs.YtobgcaemnpkbmaaGreat
namespace Go.Proofs.YtobgcaemnpkbmaaGreat
open Go.RowKit
structure Alike (m m' : Nod) : Prop where
  d : m.d = m'.d
  t : m.t = m'.t
  k : m.k = m'.k
  an : m.an = m'.an
  nm : m.nm = m'.nm
  vl : m.vl = m'.vl
  x : m.x = m'.x
theorem newN_alike (m : Nod) (g : Nat) : Alike (newN m g) m := ⟨rfl, rfl, rfl, rfl, rfl, rfl, rfl⟩
theorem Alike.el {m m' : Nod} (h : Alike m m') : elB m = elB m' := by unfold elB; rw [h.t, h.x, h.k, h.an, h.nm, h.vl]
theorem Alike.tx {m m' : Nod} (h : Alike m m') : txB m = txB m' := by unfold txB; rw [h.t, h.x, h.k, h.an]
theorem alike_back {L L' : Nat → Nod} {i : Nat} (h : ∀ j, j ≤ i → Alike (L j) (L' j)) : ∀ m, m ≤ i → goBack L i m = goBack L' i m := by
  intro m
  induction m with
  | zero => intro _; rfl
  | succ m ih =>
    intro hm
    have a := h m (by omega)
    have b := h i (Nat.le_refl _)
    rw [goBack, goBack, ih (by omega), a.d, a.t, a.k, b.d, b.k]
theorem alike_may {L L' : Nat → Nod} {i : Nat} (h : ∀ j, j ≤ i → Alike (L j) (L' j)) : mayB L i = mayB L' i := by
  unfold mayB
  rw [(h 0 (Nat.zero_le _)).d, (h 0 (Nat.zero_le _)).el, (h i (Nat.le_refl _)).d, (h i (Nat.le_refl _)).el, (h i (Nat.le_refl _)).tx, (h (i - 1) (by omega)).d, alike_back h i (Nat.le_refl _)]
theorem search_congr {f g : Nat → Bool} {n : Nat} (h : ∀ i, i < n → f i = g i) : search f n = search g n := by
  unfold search
  have e : ∀ l : List Nat, (∀ i, i ∈ l → i < n) → l.find? (fun i => !f i) = l.find? (fun i => !g i) := by
    intro l
    induction l with
    | nil => intro _; rfl
    | cons a l ih =>
      intro hl
      rw [List.find?_cons, List.find?_cons, h a (hl a (List.mem_cons_self ..)), ih (fun i hi => hl i (List.mem_cons_of_mem _ hi))]
  rw [e (List.range n) (fun i hi => List.mem_range.1 hi)]
theorem check_lent (L : Nat → Nod) (G : Nat → Nat) (n : Nat) : checkOut (mayB (lentN L G n)) n = checkOut (mayB L) n := by
  unfold checkOut
  rw [search_congr (f := mayB (lentN L G n)) (g := mayB L) fun i hi => alike_may fun j hj => by
    unfold lentN; rw [if_pos (by omega)]; exact newN_alike _ _]
theorem lent_list {W w : World} {ao : Option Addr} {L : Nat → Nod} {G : Nat → Nat} {n : Nat} (h : ListAt W ao n L) (hin : In L n)
    (hr : w.rowIs W.heap.size 33 ((n + 3) * 5) (nodesCell (lentN L G n))) (hR : RowsAt w L G W.heap.size n) : ListAt w (some ⟨W.heap.size, 0, none⟩) n (lentN L G n) := by
  intro hn
  obtain ⟨b, o, _, hL⟩ := h hn
  refine ⟨W.heap.size, 0, rfl, hr.lt, fun i hi => ?_⟩
  have cell : ∀ r, r < 5 → w.cell? ⟨W.heap.size, 0 + i * 5 + r, none⟩ = some (nodCell (lentN L G n i) r) := fun r hr5 => by
    rw [Nat.zero_add, hr.cell (by omega), nodesCell_at _ _ _ hr5]
  have el : lentN L G n i = newN (L i) (G i) := by unfold lentN; rw [if_pos hi]
  have ok := (hL.node i hi).ok
  refine ⟨cell 0 (by omega), cell 1 (by omega), cell 2 (by omega), cell 3 (by omega), cell 4 (by omega), ?_⟩
  rw [el]
  refine ⟨ok.an, ok.t, ok.x, ?_⟩
  intro j hj
  have hj : j < (L i).an := hj
  have hne : (L i).ao ≠ none := fun e => by have := hin.nil i hi e; omega
  obtain ⟨b', o', _, _, _, _, s0, s1⟩ := ok.at' j hj
  have row := hR.row i hi hne
  refine ⟨G i, 0, by rw [newN_some hne], row.lt, ?_, ?_, s0, s1⟩
  · rw [Nat.zero_add, row.cell (by omega)]; unfold attrRow; rw [attrCell_even, if_pos hj]; rfl
  · rw [Nat.zero_add, row.cell (by omega)]; unfold attrRow; rw [attrCell_odd, if_pos hj]; rfl
set_option maxRecDepth 100000 in
set_option maxHeartbeats 400000 in
theorem lent_nil (g n c m k : Nat) (w : World) :
    Calls Tryz.prog 11 #[.slice (some ⟨g, 0, none⟩) m k, .slice none n c] w fun e w' => e = .returned (.slice none 0 0) ∧ w' = w := by
  have heq : ∀ w a l c, (binOp .eql 24 (.slice a l c) (.slice none 0 0)).run Tryz.prog w = .ok (.bool a.isNone) w := fun w a l c =>
    Lib.run_eql_slice_nil (P := Tryz.prog) w 24 33 a l c 0 0 Tryz.underlying24
  go_enter Tryz.func11, Tryz.ntmps11
  go_wp2
  go_ret
  exact ⟨rfl, rfl⟩
set_option maxRecDepth 100000 in
set_option maxHeartbeats 400000 in
theorem lent_some (ad : Addr) (g n c : Nat) (w : World) (hn : n ≤ 140737488351232) :
    Calls Tryz.prog 11 #[.slice (some ⟨g, 0, none⟩) (n + 3) (n + 3), .slice (some ad) n c] w fun e w' => e = .returned (.slice (some ⟨g, 0, none⟩) n (n + 3)) ∧ w' = w := by
  have heq : ∀ w a l c, (binOp .eql 24 (.slice a l c) (.slice none 0 0)).run Tryz.prog w = .ok (.bool a.isNone) w := fun w a l c =>
    Lib.run_eql_slice_nil (P := Tryz.prog) w 24 33 a l c 0 0 Tryz.underlying24
  go_enter Tryz.func11, Tryz.ntmps11
  go_wp2
  go_ret
  exact ⟨rfl, rfl⟩
theorem lent_any (ao : Option Addr) (g n c : Nat) (w : World) (hn : n ≤ 140737488351232) :
    Calls Tryz.prog 11 #[.slice (some ⟨g, 0, none⟩) (n + 3) (n + 3), .slice ao n c] w fun e w' => e = .returned (.slice (lentAo ao g) (lentLen ao n) (lentCap ao n)) ∧ w' = w := by
  cases ao with
  | none => exact lent_nil g n c (n + 3) (n + 3) w
  | some ad => exact lent_some ad g n c w hn
theorem whole_of {W w w' : World} {L : Nat → Nod} {G : Nat → Nat} {n : Nat} (hr : w.rowIs W.heap.size 33 ((n + 3) * 5) (nodesCell (lentN L G n))) (hR : RowsAt w L G W.heap.size n) (hb : Below W.heap.size W w) (hb' : Below w.heap.size w w') :
    Gs L G W.heap.size n ∧ Wh w' W w' W.heap.size L G n 0 0 := by
  have h := Wh.grow (M := w) (kr := 0) (ka := 0) ⟨⟨_, hr, fun _ _ => rfl⟩, fun i _ h2 h3 => hR.row i h2 h3, hb, Touch.of_below (Below.refl _ _)⟩ hb'
  exact ⟨⟨hR.above, hR.rise⟩, h.row, h.rows, h.below, Touch.of_below (Below.refl _ _)⟩
end Go.Proofs.YtobgcaemnpkbmaaGreat
namespace Go.Proofs.YtobgcaemnpkbmaaGreat
open Go.RowKit
structure ListIn (w : World) (ao : Option Addr) (n : Nat) (L : Nat → Nod) : Prop where
  at' : ListAt w ao n L
  inn : In L n
  cap : ∀ i, i < n → (L i).ao = none → (L i).ac = 0
  len : n * 72 ≤ 140737488351232
theorem check_zero {f : Nat → Bool} {n : Nat} (h : (checkOut f n).1 = 0) : checkOut f n = (0, 0) ∧ 0 < n ∧ n ≤ 400 ∧ ∀ i, i < n → f i = true := by
  unfold checkOut at h ⊢
  by_cases hn : n < 1 ∨ 400 < n
  · rw [if_pos hn] at h; cases h
  · rw [if_neg hn] at h ⊢
    unfold search at h ⊢
    cases hx : (List.range n).find? (fun i => !f i) with
    | some i => rw [hx] at h; cases h
    | none =>
      refine ⟨rfl, by omega, by omega, fun i hi => ?_⟩
      have := List.find?_eq_none.1 hx i (List.mem_range.2 hi)
      simpa using this
theorem lent_tree (ao : Option Addr) (n : Nat) (L : Nat → Nod) (G : Nat → Nat) (W w : World) (hn : n * 72 ≤ 140737488351232) (h : ListAt W ao n L) (hin : In L n)
    (hr : w.rowIs W.heap.size 33 ((n + 3) * 5) (nodesCell (lentN L G n))) (hR : RowsAt w L G W.heap.size n) :
    Calls Tryz.prog 42 #[.slice (lentAo ao W.heap.size) (lentLen ao n) (lentCap ao n)] w fun e w' => e = .returned (.tuple #[.int .i64 (checkOut (mayB L) n).1, .int .i64 (checkOut (mayB L) n).2]) ∧ Below w.heap.size w w' := by
  cases ao with
  | none =>
    have h0 : n = 0 := by
      apply Classical.byContradiction
      intro hc
      obtain ⟨_, _, e, _⟩ := h (by omega)
      cases e
    subst h0
    have hc := treeCheck_any none 0 0 L w (by unfold maxLen; omega) (fun h => absurd h (Nat.lt_irrefl _))
    exact hc
  | some ad =>
    have hc := treeCheck_any (some ⟨W.heap.size, 0, none⟩) n (n + 3) (lentN L G n) w (by unfold maxLen; omega) (lent_list h hin hr hR)
    rw [check_lent] at hc
    exact hc
theorem made_bad (wb : Nat) (w : World) (ao : Option Addr) (n c : Nat) (L : Nat → Nod) (hl : ListIn w ao n L) (hbad : ((checkOut (mayB L) n).1 != 0) = true) :
    Calls Tryz.prog 6 #[.pointer (some ⟨wb, 0, none⟩), .slice ao n c] w fun e w' => e = .returned (.bool true) ∧ Below w.heap.size w w' := by
  have H := hide hl.at'
  have HI := hide hl.inn
  have hn := hl.len
  clear hl
  have HT : Hid (∀ w3 G, w3.rowIs w.heap.size 33 ((n + 3) * 5) (nodesCell (lentN L G n)) → RowsAt w3 L G w.heap.size n → Calls Tryz.prog 10 #[.slice (lentAo ao w.heap.size) (lentLen ao n) (lentCap ao n)] w3 fun e w' => e = .returned (.tuple #[.pointer none, .int .i64 (checkOut (mayB L) n).1, .int .i64 (checkOut (mayB L) n).2]) ∧ Below w3.heap.size w3 w') := hide fun w3 G hr hR =>
    wrap_bad _ _ _ _ _ _ hbad (hide (pnew_bad _ _ _ _ _ _ hbad (hide (lent_tree ao n L G w w3 hn H.out HI.out hr hR))))
  have HC : Hid (∀ w6, Below w.heap.size w w6 → Calls Tryz.prog 13 #[.slice ao n c] w6 fun e w' => e = .returned (.tuple #[.int .i64 (checkOut (mayB L) n).1, .int .i64 (checkOut (mayB L) n).2]) ∧ Below w6.heap.size w6 w') := hide fun w6 hb6 => refCheck_any ao n c L w6 (by unfold maxLen; omega) (H.out.below hb6)
  generalize (checkOut (mayB L) n).1 = no at *
  generalize (checkOut (mayB L) n).2 = pl at *
  have hno : (no == 0) = false := by simpa [bne] using hbad
  go_enter Tryz.func6, Tryz.ntmps6
  go_wp2_with fail
  refine (nodes_any ao n c L w hn (unhide H) (unhide HI)).mono ?_
  rintro e w3 ⟨rfl, hb3, G, hr3, hR3⟩
  have Hr := hide hr3
  have HR := hide hR3
  clear hr3 hR3
  go_wp2_with fail
  refine (lent_any ao w.heap.size n c w3 (by omega)).mono ?_
  rintro e w4 ⟨rfl, rfl⟩
  go_wp2_with fail
  refine (unhide HT _ G (unhide Hr) (unhide HR)).mono ?_
  rintro e w5 ⟨rfl, hb5⟩
  obtain ⟨hG, hW⟩ := whole_of (unhide Hr) (unhide HR) hb3 hb5
  have HG := hide hG
  have HW := hide hW
  clear hG hW
  go_wp2_with fail
  refine (whole_any w ao n c L G _ hn (unhide H) (unhide HI) (unhide HG) (unhide HW)).mono ?_
  rintro e w6 ⟨rfl, hb6, _⟩
  go_wp2_with fail
  refine (unhide HC _ hb6).mono ?_
  rintro e w7 ⟨rfl, hb7⟩
  go_wp2_with (go_at_call 14; refine (num_any _ _).mono ?_; rintro e w' ⟨rfl, rfl⟩)
  go_ret
  exact ⟨rfl, hb6.trans (hb7.mono hb6.size)⟩
end Go.Proofs.YtobgcaemnpkbmaaGreat
namespace Go.Proofs.YtobgcaemnpkbmaaGreat
open Go.RowKit
theorem pairInfo : (Tryz.prog.info? 59).map (fun i => (i.zero, i.size, i.bytes)) = some (some (.pointer none), 1, 8) := by kernel_rfl
theorem parentOf_congr {L L' : Nat → Nod} {i : Nat} (h : ∀ j, j ≤ i → (L j).d = (L' j).d) : ∀ m, m ≤ i → parentOf L i m = parentOf L' i m := by
  intro m
  induction m with
  | zero => intro _; rfl
  | succ m ih => intro hm; rw [parentOf, parentOf, ih (by omega), h m (by omega), h i (Nat.le_refl _)]
theorem madeR_lent (L : Nat → Nod) (G : Nat → Nat) (n : Nat) : madeR (lentN L G n) n = madeR L n := by
  unfold madeR
  refine List.map_congr_left fun i hi => ?_
  have hi : i < n := List.mem_range.1 hi
  have hl : ∀ j, j < n → lentN L G n j = newN (L j) (G j) := fun j hj => by unfold lentN; rw [if_pos hj]
  have hp : parP (lentN L G n) i = parP L i := by
    unfold parP
    rw [parentOf_congr (L' := L) (fun j hj => by rw [hl j (by omega)]; rfl) i (Nat.le_refl _)]
  unfold rnOf
  rw [hp, hl i hi]
  rfl
theorem LawOk.more {W0 : World} {own : Owns} {w wF : World} {wb : Nat} {Ps : List PD} {m : Nat} {k : Int} (h : LawOk W0 own w wb Ps m k) {D : PD} {S2 : Nat → Prop} {vp vp' : Value} (hvo : ∀ b, vp.ownBlock = some b → own b = some (0, 1))
    (ht : Touch (fun b => b = wb ∨ some b = vp.ownBlock) w wF) (hc0 : wF.cell? ⟨wb, 0, none⟩ = some vp') (hf0 : wF.frozen? ⟨wb, 0, none⟩ = false) (hoth : ∀ o, 0 < o → wF.cell? ⟨wb, o, none⟩ = w.cell? ⟨wb, o, none⟩ ∧ wF.frozen? ⟨wb, o, none⟩ = w.frozen? ⟨wb, o, none⟩)
    (hrow : wF.ownsRow 0 59 1 vp' (Ps.length + 1) ((Ps.map fun D => .pointer (some ⟨D.pb, 0, none⟩)) ++ [.pointer (some ⟨D.pb, 0, none⟩)])) (hrown : ∀ b, vp'.ownBlock = some b → vp.ownBlock = some b ∨ (w.heap.size ≤ b ∧ b ≠ D.pb ∧ b ≠ D.db ∧ D.ρ b = none ∧ ¬ S2 b))
    (hpb : wF.heap[D.pb]? = some (.cells #[.pointer (some ⟨D.db, 0, none⟩), .pointer (some ⟨D.p, 0, none⟩)] 63 (0, 0))) (hdb : wF.heap[D.db]? = some (.cells #[.pointer (some ⟨D.q, 0, none⟩)] 84 (0, 0)))
    (lpb : w.heap.size ≤ D.pb) (ldb : w.heap.size ≤ D.db) (hdom : Dom D.ρ D.nb D.mb (some (D.nb 1)) wF D.q D.R D.last) (hρ : ∀ b, (D.ρ b).isSome = true → w.heap.size ≤ b ∧ b ≠ D.pb ∧ b ≠ D.db ∧ ¬ S2 b)
    (href : RefAt S2 wF D.p D.R' D.last D.v) (hS2 : ∀ b, S2 b → w.heap.size ≤ b ∧ b < wF.heap.size ∧ b ≠ D.pb ∧ b ≠ D.db) (hbare : bareL D.R' = bareL D.R) (hok : DocOk D.R D.last) (hfine : Fine D.R) (hlast : D.last ≤ k) : ∃ own', LawOk W0 own' wF wb (Ps ++ [D]) (m + 1) k := by
  classical
  have hold : ∀ b, (own b).isSome = true → (if (own b).isSome = true then own b else if vp'.ownBlock = some b then some (0, 1) else if b = D.pb ∨ b = D.db then some (Ps.length + 1, 0) else if (D.ρ b).isSome = true then some (Ps.length + 1, 1) else if S2 b then some (Ps.length + 1, 2) else none) = own b := fun b e => if_pos e
  have hnew : ∀ b, w.heap.size ≤ b → ¬ (own b).isSome = true := fun b hb e => by have := (h.low b e).2; omega
  have hvn : ∀ b, w.heap.size ≤ b → (vp'.ownBlock = some b → (b ≠ D.pb ∧ b ≠ D.db ∧ D.ρ b = none ∧ ¬ S2 b)) := fun b hb e => by
    rcases hrown b e with e2 | e2
    · have := (h.low b (by rw [hvo b e2]; rfl)).2; omega
    · exact e2.2
  have hkeep : ∀ b, (own b).isSome = true → own b ≠ some (0, 0) → own b ≠ some (0, 1) → wF.heap[b]? = w.heap[b]? := fun b e h0 h1 => ht.block b (h.low b e).2 fun e2 => by
    rcases e2 with e2 | e2
    · rw [e2] at h0; exact h0 h.wo
    · exact h1 (hvo b e2.symm)
  refine ⟨fun b => if (own b).isSome = true then own b else if vp'.ownBlock = some b then some (0, 1) else if b = D.pb ∨ b = D.db then some (Ps.length + 1, 0) else if (D.ρ b).isSome = true then some (Ps.length + 1, 1) else if S2 b then some (Ps.length + 1, 2) else none, ?_⟩
  refine ⟨(hold wb (by rw [h.wo]; rfl)).trans h.wo, ⟨vp', hc0, hf0, ?_, fun b e => ?_⟩, fun i hi => ?_, ?_, fun b e => ?_, below_touch h.base ht (fun b e => ?_) (Nat.le_refl _), ?_, fun E hE => ?_⟩
  · rw [List.length_append, List.map_append]; exact hrow
  · show (if (own b).isSome = true then own b else _) = _
    rcases hrown b e with e2 | e2
    · rw [if_pos (by rw [hvo b e2]; rfl)]; exact hvo b e2
    · rw [if_neg (hnew b e2.1), if_pos e]
  · by_cases hl : i < Ps.length
    · rw [List.getElem_append_left hl]
      exact (h.pair i hl).kept ht.size fun b j e => ⟨hkeep b (by rw [e]; rfl) (by rw [e]; simp) (by rw [e]; simp), hold b (by rw [e]; rfl)⟩
    · have hii : i = Ps.length := by rw [List.length_append] at hi; simp at hi; omega
      subst hii
      rw [List.getElem_append_right (Nat.le_refl _)]
      simp only [Nat.sub_self, List.getElem_cons_zero]
      refine ⟨hpb, hdb, ?_, ?_, hdom, fun b e => ?_, href.heap (Nat.le_refl _) fun b _ e => ⟨rfl, ?_⟩, hbare, hok, hfine⟩
      · show (if (own D.pb).isSome = true then own D.pb else _) = _
        rw [if_neg (hnew _ lpb), if_neg (fun e => (hvn _ lpb e).1 rfl), if_pos (.inl rfl)]
      · show (if (own D.db).isSome = true then own D.db else _) = _
        rw [if_neg (hnew _ ldb), if_neg (fun e => (hvn _ ldb e).2.1 rfl), if_pos (.inr rfl)]
      · show (if (own b).isSome = true then own b else _) = _
        obtain ⟨h1, h2, h3, _⟩ := hρ b e
        rw [if_neg (hnew _ h1), if_neg (fun e2 => by rw [(hvn _ h1 e2).2.2.1] at e; cases e), if_neg (fun e2 => e2.elim h2 h3), if_pos e]
      · show (if (own b).isSome = true then own b else _) = _
        obtain ⟨h1, _, h2, h3⟩ := hS2 b e
        rw [if_neg (hnew _ h1), if_neg (fun e2 => (hvn _ h1 e2).2.2.2 e), if_neg (fun e2 => e2.elim h2 h3), if_neg (fun e2 => (hρ b e2).2.2.2 e), if_pos e]
  · exact h.book.kept ht.size (by omega) hoth fun b j e => ⟨hkeep b (by rw [e]; rfl) (by rw [e]; simp <;> omega) (by rw [e]; simp <;> omega), hold b (by rw [e]; rfl)⟩
  · by_cases e1 : (own b).isSome = true
    · exact ⟨(h.low b e1).1, Nat.lt_of_lt_of_le (h.low b e1).2 ht.size⟩
    replace e : (if (own b).isSome = true then own b else if vp'.ownBlock = some b then some (0, 1) else if b = D.pb ∨ b = D.db then some (Ps.length + 1, 0) else if (D.ρ b).isSome = true then some (Ps.length + 1, 1) else if S2 b then some (Ps.length + 1, 2) else none).isSome = true := e
    rw [if_neg e1] at e
    have hW := h.base.size
    by_cases e2 : vp'.ownBlock = some b
    · refine ⟨?_, (hrow.lt b e2).2⟩
      rcases hrown b e2 with e3 | e3
      · exact (h.low b (by rw [hvo b e3]; rfl)).1
      · omega
    rw [if_neg e2] at e
    by_cases e3 : b = D.pb ∨ b = D.db
    · rcases e3 with e3 | e3
      · rw [e3]; exact ⟨by omega, lt_of_blk hpb⟩
      · rw [e3]; exact ⟨by omega, lt_of_blk hdb⟩
    rw [if_neg e3] at e
    by_cases e4 : (D.ρ b).isSome = true
    · exact ⟨by have := (hρ b e4).1; omega, hdom.low b e4⟩
    rw [if_neg e4] at e
    by_cases e5 : S2 b
    · exact ⟨by have := (hS2 b e5).1; omega, (hS2 b e5).2.1⟩
    rw [if_neg e5] at e
    cases e
  · rcases e with e | e
    · rw [e]; exact (h.low wb (by rw [h.wo]; rfl)).1
    · exact (h.low b (by rw [hvo b e.symm]; rfl)).1
  · rw [List.length_append]; have := h.few; simp; omega
  · rcases List.mem_append.1 hE with e | e
    · exact h.last E e
    · rw [List.mem_singleton.1 e]; exact hlast
end Go.Proofs.YtobgcaemnpkbmaaGreat
