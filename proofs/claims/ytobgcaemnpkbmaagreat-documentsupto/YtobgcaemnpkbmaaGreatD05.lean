/- Tre2 Sets Within Tch -/
import Derived.Test.YtobgcaemnpkbmaaGreatD04
import Derived.Test.YtobgcaemnpkbmaaGreatD01
namespace Go.Proofs.YtobgcaemnpkbmaaGreat
open Go.RowKit
attribute [local go_sem ↓] Go.wp_at_zero Go.wp_at_succ
theorem cells_new' (w : World) (xs : Array Value) (t : TypeId) (n : Nat) (hn : n = w.heap.size) : ∀ a, some (⟨n, 0, none⟩ : Addr) = some a → ∀ j u, xs.toList[j]? = some u → (w.alloc (.cells xs t)).cell? (a.add j) = some u := by
  subst hn; exact cells_new w xs t
theorem size_setCell' (w : World) (a : Addr) (u : Value) : (w.setCell a u).heap.size = w.heap.size := by simp [World.setCell]
theorem own_set {w : World} {B : Nat} {e : TypeId} {size : Nat} {v : Value} {n : Nat} {xs : List Value} (h : w.ownsRow B e size v n xs) {a : Addr} {u : Value} (hne : v.ownBlock = none ∨ v.ownBlock ≠ some a.block) : (w.setCell a u).ownsRow B e size v n xs :=
  h.kept (row := some a.block) ⟨rfl, rfl, rfl, by rw [size_setCell']; exact Nat.le_refl _, fun k _ hk => Below.heap_setCell _ _ _ _ (fun e => hk (by rw [e]))⟩ hne
theorem attrs_sizes {w : World} {ao : Option Addr} {n : Nat} {l : List (ByteArray × ByteArray)} (hn : n = l.length) (h : AttrsAt w ao n (nmOf l) (vlOf l)) : ∀ x, x ∈ l → x.1.size ≤ maxLen ∧ x.2.size ≤ maxLen := by
  intro x hx
  obtain ⟨j, hj, rfl⟩ := List.getElem_of_mem hx
  obtain ⟨_, _, _, _, _, _, s0, s1⟩ := h j (by omega)
  have e1 : nmOf l j = l[j].1 := by unfold nmOf; rw [List.getD_eq_getElem?_getD, List.getElem?_eq_getElem hj]; rfl
  have e2 : vlOf l j = l[j].2 := by unfold vlOf; rw [List.getD_eq_getElem?_getD, List.getElem?_eq_getElem hj]; rfl
  rw [e1] at s0; rw [e2] at s1
  exact ⟨s0, s1⟩
theorem TellAt.base {B B' : Nat} {w : World} {q : Value} {N : List TN} (h : TellAt B w q N) (hB : B' ≤ B) : TellAt B' w q N :=
  ⟨own_ge h.row hB, fun n hn => ⟨(h.node n hn).an, (h.node n hn).tag, (h.node n hn).text, own_ge (h.node n hn).row hB, (h.node n hn).size, (h.node n hn).ne⟩, h.far⟩
theorem own_shape {w : World} {B : Nat} {e : TypeId} {size : Nat} {v : Value} {n : Nat} {xs : List Value} (h : w.ownsRow B e size v n xs) : ∃ ao c, v = .slice ao n c := by
  rcases h.2 with ⟨rfl, rfl⟩ | ⟨g, cap, cur, rfl, _⟩
  · exact ⟨none, 0, rfl⟩
  · exact ⟨_, cap, rfl⟩
theorem new_below {w w' : World} {v' : Value} (h : Grew w w' (.slice none 0 0) v') : Below w.heap.size w w' := by
  have g := h.by
  exact ⟨g.os, g.tape, g.output, g.size, fun k hk => g.block k hk (by simp [Value.ownBlock])⟩
set_option maxRecDepth 100000 in
set_option maxHeartbeats 1600000 in
theorem tree_any (S : Nat → Prop) (p : Nat) (R : List RN) (last : Int) (v : Value) (w : World) (h : RefAt S w p R last v) (r f : Nat) (hr : atP R 1 = (r : Int)) (hf : f ≤ 1099511627776) (hfit : fitP R f r) (hlen : (walkP R f r 0).length ≤ 1099511627776) :
    Calls Tryz.prog 27 #[.pointer (some ⟨p, 0, none⟩)] w fun e w' => ∃ q N, e = .returned q ∧ TellAt w.heap.size w' q N ∧ N.length = (walkP R f r 0).length ∧ (∀ i, (hi : i < (walkP R f r 0).length) → (hn : i < N.length) → tellP R ((walkP R f r 0)[i]) (N[i])) ∧ Below w.heap.size w w' := by
  obtain ⟨i0, hi, hz0, hz1, hz2⟩ := info_parts attrInfo'
  obtain ⟨j0, hj, hy0, hy1, hy2⟩ := info_parts nodeInfo'
  have hpos := walkP_pos (d := 0) hfit
  have HLt := hide (fun x hx => walkP_lt (d := 0) hfit x hx)
  have c1 := h.c1
  have HR := hide h
  have hp := h.lt
  have hW : ∀ w, RefAt S w p R last v → Calls Tryz.prog 48 #[.pointer (some ⟨p, 0, none⟩), .int .i64 r, .int .i64 0] w fun e w' => ∃ g1 c1 g2 c2, e = .returned (.tuple #[.slice (some ⟨g1, 0, none⟩) (walkP R f r 0).length c1, .slice (some ⟨g2, 0, none⟩) (walkP R f r 0).length c2]) ∧
      (walkP R f r 0).length ≤ c1 ∧ (walkP R f r 0).length ≤ c2 ∧ g1 < w'.heap.size ∧ g2 < w'.heap.size ∧ (∀ k, (hk : k < (walkP R f r 0).length) → w'.cell? ⟨g1, k, none⟩ = some (.int .i64 ((walkP R f r 0)[k].1 : Nat)) ∧ w'.cell? ⟨g2, k, none⟩ = some (.int .i64 ((walkP R f r 0)[k].2))) ∧ Below w.heap.size w w' := by
    intro w hw
    refine (walk_any S p R last v f r 0 w hfit (by omega) (by omega) hlen hw).mono ?_
    rintro e w' ⟨a1, c1, a2, c2, rfl, hV⟩
    obtain ⟨g1, rfl, hc1, _, hg1, hcell1⟩ := hV.o1.some (by rw [places_length]; exact hpos)
    obtain ⟨g2, rfl, hc2, _, hg2, hcell2⟩ := hV.o2.some (by rw [deeps_length]; exact hpos)
    refine ⟨g1, c1, g2, c2, rfl, hc1, hc2, hg1, hg2, fun k hk => ⟨?_, ?_⟩, hV.bel⟩
    · rw [hcell1 k (by rw [places_length]; exact hk)]
      unfold places
      rw [List.getElem?_map, List.getElem?_eq_getElem hk]
      rfl
    · rw [hcell2 k (by rw [deeps_length]; exact hk)]
      unfold deeps
      rw [List.getElem?_map, List.getElem?_eq_getElem hk]
      rfl
  have HW := hide hW
  have hA : ∀ w, RefAt S w p R last v → Calls Tryz.prog 49 #[.pointer (some ⟨p, 0, none⟩), .int .i64 1] w fun e w' => e = .returned (.int .i64 r) ∧ w' = w := by
    intro w hw; rw [← hr]; exact at_any S p R last v 1 w hw
  have HA := hide hA
  clear hW hA h hr hfit
  generalize walkP R f r 0 = W at *
  go_enter Tryz.func27, Tryz.ntmps27
  go_wp2_with (first | (go_at_call 49; refine (unhide HA _ (unhide HR)).mono ?_; rintro e w1 ⟨rfl, rfl⟩) | (go_at_call 48; refine (unhide HW _ (unhide HR)).mono ?_; rintro e w2 ⟨g1, d1, g2, d2, rfl, hc1, hc2, hg1, hg2, hcell1, hb2⟩))
  have HC1 := hide hcell1
  have HR2 := hide (HR.out.below hb2)
  have hp2 := HR2.out.lt
  have HB2 := hide hb2
  clear hcell1 HR HW HA c1 hb2
  go_loopw [5, 6, 7, 8] (fun o i _ _ wr => ∃ (k : Nat) (q : Value) (N : List TN), k ≤ W.length ∧ i = .int .i64 k ∧ q = o ∧ Hid (N.length = k ∧ TellAt w2.heap.size wr q N ∧ ∀ i, (hi : i < W.length) → (hn : i < N.length) → tellP R (W[i]) (N[i])) ∧ Below w2.heap.size w2 wr) (fun _ i _ _ _ => W.length - (intOf i).toNat)
  case atStart => exact ⟨0, _, [], Nat.zero_le _, rfl, rfl, hide ⟨rfl, TellAt.nil _ _, fun i _ h => absurd h (Nat.not_lt_zero _)⟩, Below.refl _ _⟩
  case round =>
    obtain ⟨k, q, N, hk, rfl, rfl, hown, hbel⟩ := hrel
    by_cases hlt : k < W.length
    · have hlt' := HLt.out W[k] (List.getElem_mem hlt)
      obtain ⟨g, cap, rfl, hcc, hg, _, _, hcell⟩ := HR2.out.at (by omega)
      have e0 := (hbel.cell (p := ⟨p, 0, none⟩) hp2).trans HR2.out.c0
      have e1 := (hbel.cell (p := ⟨g1, k, none⟩) hg1).trans (HC1.out k hlt).1
      have e2 := (hbel.cell (p := ⟨g2, k, none⟩) hg2).trans (HC1.out k hlt).2
      have n0 : wr.cell? ⟨g, W[k].1 * 6, none⟩ = some (.int .i64 R[W[k].1].id) := (hbel.cell (p := ⟨g, W[k].1 * 6, none⟩) hg).trans (hcell W[k].1 0 hlt' (by omega))
      have n1 : wr.cell? ⟨g, W[k].1 * 6 + 1, none⟩ = some (.int .i64 R[W[k].1].par) := (hbel.cell (p := ⟨g, W[k].1 * 6 + 1, none⟩) hg).trans (hcell W[k].1 1 hlt' (by omega))
      have n2 : wr.cell? ⟨g, W[k].1 * 6 + 2, none⟩ = some (.string R[W[k].1].tag) := (hbel.cell (p := ⟨g, W[k].1 * 6 + 2, none⟩) hg).trans (hcell W[k].1 2 hlt' (by omega))
      have n3 : wr.cell? ⟨g, W[k].1 * 6 + 3, none⟩ = some (.int .i64 R[W[k].1].key) := (hbel.cell (p := ⟨g, W[k].1 * 6 + 3, none⟩) hg).trans (hcell W[k].1 3 hlt' (by omega))
      have n4 : wr.cell? ⟨g, W[k].1 * 6 + 4, none⟩ = some (.slice R[W[k].1].ao R[W[k].1].an R[W[k].1].ac) := (hbel.cell (p := ⟨g, W[k].1 * 6 + 4, none⟩) hg).trans (hcell W[k].1 4 hlt' (by omega))
      have n5 : wr.cell? ⟨g, W[k].1 * 6 + 5, none⟩ = some (.string R[W[k].1].text) := (hbel.cell (p := ⟨g, W[k].1 * 6 + 5, none⟩) hg).trans (hcell W[k].1 5 hlt' (by omega))
      have HT : Hid (∀ n, n.d = W[k].2 ∧ n.tag = R[W[k].1].tag ∧ n.key = R[W[k].1].key ∧ n.text = R[W[k].1].text ∧ n.ats = R[W[k].1].ats → tellP R W[k] n) := hide (fun n h => ⟨hlt', h⟩)
      have HOk := hide ((HR2.out.node R[W[k].1] (List.getElem_mem hlt')).below (hbel.mono (Nat.le_refl _)))
      have i1 : (0 : Int) ≤ (k : Int) := by omega
      have i2 : (k : Int) < (W.length : Int) := by omega
      clear hcell
      generalize R[W[k].1] = nd at *
      generalize hxk : W[k] = x at *
      have HXk := hide hxk
      clear hxk
      obtain ⟨pl, dp⟩ := x
      simp only [] at *
      have i3 : (0 : Int) ≤ (pl : Int) := by omega
      have i4 : (pl : Int) < (R.length : Int) := by omega
      have hsz := hbel.size
      have HB := hide hbel
      have lg : g < wr.heap.size := by omega
      have lp : p < wr.heap.size := by omega
      have l1 : g1 < wr.heap.size := by omega
      have l2 : g2 < wr.heap.size := by omega
      have x0 := World.new_ne wr _ e0
      have x1 := World.new_ne wr _ e1
      have x2 := World.new_ne wr _ e2
      have x3 := World.new_ne wr _ n0
      clear hbel
      go_wp2_with fail
      go_region_held3 (fun w' => w'.cell? ⟨p, 0, none⟩ = some (.slice (some ⟨g, 0, none⟩) R.length cap) ∧ w'.cell? ⟨g1, k, none⟩ = some (.int .i64 pl) ∧ w'.cell? ⟨g, pl * 6, none⟩ = some (.int .i64 nd.id) ∧ w'.cell? ⟨g, pl * 6 + 1, none⟩ = some (.int .i64 nd.par) ∧ w'.cell? ⟨g, pl * 6 + 2, none⟩ = some (.string nd.tag) ∧ w'.cell? ⟨g, pl * 6 + 3, none⟩ = some (.int .i64 nd.key) ∧ w'.cell? ⟨g, pl * 6 + 4, none⟩ = some (.slice nd.ao nd.an nd.ac) ∧ w'.cell? ⟨g, pl * 6 + 5, none⟩ = some (.string nd.text))
        (go_keep) (fail)
      go_wp2_with fail
      generalize hw3 : (wr.alloc (.cells #[.int .i64 nd.id, .int .i64 nd.par, .string nd.tag, .int .i64 nd.key, .slice nd.ao nd.an nd.ac, .string nd.text] 91)).drew = w3
      have hb3 : Below wr.heap.size wr w3 := by rw [← hw3]; exact ((Below.refl _ _).alloc (Nat.le_refl _) _).drew
      have s3 : w3.heap.size = wr.heap.size + 1 := by rw [← hw3]; simp
      have b2 : w3.cell? ⟨wr.heap.size, 2, none⟩ = some (.string nd.tag) := by rw [← hw3]; simp [go_sem]
      have b3 : w3.cell? ⟨wr.heap.size, 3, none⟩ = some (.int .i64 nd.key) := by rw [← hw3]; simp [go_sem]
      have b4 : w3.cell? ⟨wr.heap.size, 4, none⟩ = some (.slice nd.ao nd.an nd.ac) := by rw [← hw3]; simp [go_sem]
      have b5 : w3.cell? ⟨wr.heap.size, 5, none⟩ = some (.string nd.text) := by rw [← hw3]; simp [go_sem]
      have e3 := (hb3.cell (p := ⟨g2, k, none⟩) l2).trans e2
      have HA3 := hide (HOk.out.below hb3)
      have HB3 := hide hb3
      clear hw3 hb3 e0 e1 e2 n0 n1 n2 n3 n4 n5 x0 x1 x2 x3
      have x2 := World.new_ne w3 _ e3
      have x4 := World.new_ne w3 _ b2
      go_region_held3 (fun w' => w'.cell? ⟨g2, k, none⟩ = some (.int .i64 dp) ∧ w'.cell? ⟨wr.heap.size, 2, none⟩ = some (.string nd.tag) ∧ w'.cell? ⟨wr.heap.size, 3, none⟩ = some (.int .i64 nd.key) ∧ w'.cell? ⟨wr.heap.size, 5, none⟩ = some (.string nd.text))
        (go_keep) (fail)
      generalize hw4 : (w3.alloc (.cells #[.int .i64 dp, .string nd.tag, .int .i64 nd.key, .slice none 0 0, .string nd.text] 33)).drew = w4
      have hb4 : Below w3.heap.size w3 w4 := by rw [← hw4]; exact ((Below.refl _ _).alloc (Nat.le_refl _) _).drew
      have s4 : w4.heap.size = wr.heap.size + 2 := by rw [← hw4]; simp [s3]
      have y0 : w4.cell? ⟨wr.heap.size + 1, 0, none⟩ = some (.int .i64 dp) := by rw [← hw4, ← s3]; simp [go_sem]
      have y1 : w4.cell? ⟨wr.heap.size + 1, 1, none⟩ = some (.string nd.tag) := by rw [← hw4, ← s3]; simp [go_sem]
      have y2 : w4.cell? ⟨wr.heap.size + 1, 2, none⟩ = some (.int .i64 nd.key) := by rw [← hw4, ← s3]; simp [go_sem]
      have y3 : w4.cell? ⟨wr.heap.size + 1, 3, none⟩ = some (.slice none 0 0) := by rw [← hw4, ← s3]; simp [go_sem]
      have y4 : w4.cell? ⟨wr.heap.size + 1, 4, none⟩ = some (.string nd.text) := by rw [← hw4, ← s3]; simp [go_sem]
      have yf : w4.frozen? ⟨wr.heap.size + 1, 3, none⟩ = false := by rw [← hw4, ← s3]; simp [go_sem]
      have z4 := (hb4.cell (p := ⟨wr.heap.size, 4, none⟩) (by simp; omega)).trans b4
      have HA4 := hide (HA3.out.below hb4)
      have HB4 := hide (HB3.out.trans (hb4.mono (by omega)))
      have hfew := HOk.out.few
      have hNl : N.length ≤ W.length := by rw [hown.out.1]; exact hk
      clear hw4 hb4 b2 b3 b4 b5 e3 x2 x4 HB3 HA3
      have hanl : nd.an ≤ 5 := hfew
      have hrow : Hid (w4.ownsRow wr.heap.size 72 2 (.slice none 0 0) 0 []) := hide (World.ownsRow_nil _ _ _ _)
      go_wp2_with (first | (at_builtin; refine wpList_app _ rfl (.tmp 48) (.tmp 50) 31 rfl wr.heap.size 72 i0 _ 2 32 Tryz.underlying31 hi hz0 hz1 hz2 rfl (.slice none 0 0) 0 [] rfl (unhide hrow) nd.ao nd.an nd.ac (attrCells nd.ats) rfl (unhide HA4).nil (by rw [attrCells_length, (unhide HA4).an]) (attrs_from (unhide HA4).an (unhide HA4).at') (attrCells_one _) (by omega) (by omega) (by omega) ?_; intro q5 w5 ho5 hg5 _; have ho5' := unhide ho5; rw [Nat.zero_add, List.nil_append] at ho5'; clear ho5; obtain ⟨a5, c5, rfl⟩ := own_shape ho5'; have HO5 := hide ho5'; clear ho5'; have hb5 := new_below (unhide hg5); have s5 := hb5.size; have v0 := (hb5.cell (p := ⟨wr.heap.size + 1, 0, none⟩) (by simp; omega)).trans y0; have v1 := (hb5.cell (p := ⟨wr.heap.size + 1, 1, none⟩) (by simp; omega)).trans y1; have v2 := (hb5.cell (p := ⟨wr.heap.size + 1, 2, none⟩) (by simp; omega)).trans y2; have v3 := (hb5.cell (p := ⟨wr.heap.size + 1, 3, none⟩) (by simp; omega)).trans y3; have v4 := (hb5.cell (p := ⟨wr.heap.size + 1, 4, none⟩) (by simp; omega)).trans y4; have vf := (hb5.frozen (p := ⟨wr.heap.size + 1, 3, none⟩) (by simp; omega)).trans yf; have HB5 := hide (((unhide HB4).trans (hb5.mono (by omega))).setCell (p := ⟨wr.heap.size + 1, 3, none⟩) (by simp) (.slice a5 nd.an c5)); clear hb5 y0 y1 y2 y3 y4 yf) | (at_builtin; refine wpList_app _ rfl (.tmp 53) (.tmp 55) 24 rfl w2.heap.size 33 j0 _ 5 72 Tryz.underlying24 hj hy0 hy1 hy2 rfl q _ _ rfl ((ownsRow_below (unhide hown).2.1.row (unhide HB5)).alloc _) (some ⟨w5.heap.size, 0, none⟩) 1 1 [.int .i64 dp, .string nd.tag, .int .i64 nd.key, .slice a5 nd.an c5, .string nd.text] rfl (by simp) rfl (cells_new' _ _ _ _ (by simp)) (by simp [Value.oneCell']) (by omega) (by omega) (by simp; omega) ?_; intro q6 w6 ho6 hg6 _))
      have hb1 := hide ((HB5.out).alloc (by rw [size_setCell']; omega) (.cells #[.int .i64 dp, .string nd.tag, .int .i64 nd.key, .slice a5 nd.an c5, .string nd.text] 33))
      have hne5 : Value.ownBlock (.slice a5 nd.an c5) = none ∨ Value.ownBlock (.slice a5 nd.an c5) ≠ some (wr.heap.size + 1) := by
        rcases hg5.out.at with e | e
        · exact .inl e
        · right; rw [e]; intro e2; have := Option.some.inj e2; omega
      have hrow6 := (own_set HO5.out (a := ⟨wr.heap.size + 1, 3, none⟩) (u := .slice a5 nd.an c5) hne5).alloc (.cells #[.int .i64 dp, .string nd.tag, .int .i64 nd.key, .slice a5 nd.an c5, .string nd.text] 33)
      have HM := hide (hown.out.2.1.more (n := ⟨dp, nd.tag, nd.key, nd.text, nd.ats, a5, nd.an, c5⟩) hsz hb1.out HOk.out.an HOk.out.tag HOk.out.text hrow6 (attrs_sizes HOk.out.an HOk.out.at') ho6.out hg6.out)
      have HT2 := hide (HT.out ⟨dp, nd.tag, nd.key, nd.text, nd.ats, a5, nd.an, c5⟩ ⟨rfl, rfl, rfl, rfl, rfl⟩)
      have hB6 : Hid (Below w2.heap.size w2 w6) := hide ((HB.out.trans (hb1.out.mono hsz)).grown hg6.out.by (Nat.le_trans hsz hb1.out.size) (fun j hj => (hown.out.2.1.row.lt j hj).1))
      go_roundw
      case rel =>
        refine ⟨k + 1, _, N ++ [⟨dp, nd.tag, nd.key, nd.text, nd.ats, a5, nd.an, c5⟩], by omega, by go_num, rfl, hide ⟨by rw [List.length_append, hown.out.1]; rfl, HM.out, fun i h1 h2 => ?_⟩, hB6.out⟩
        by_cases hiN : i < N.length
        · rw [List.getElem_append_left hiN]; exact hown.out.2.2 i h1 hiN
        · have hik : i = k := by
            have := hown.out.1
            rw [List.length_append] at h2
            simp at h2
            omega
          subst hik
          rw [List.getElem_append_right (by omega)]
          have e := HXk.out
          rw [e]
          simpa using HT2.out
      case measure => simp [intOf]; omega
    · have hkn : k = W.length := by omega
      subst hkn
      go_wp2
      go_ret
      exact ⟨q, N, rfl, hown.out.2.1.base HB2.out.size, hown.out.1, hown.out.2.2, HB2.out.trans (hbel.mono HB2.out.size)⟩
end Go.Proofs.YtobgcaemnpkbmaaGreat
namespace Go.Proofs.YtobgcaemnpkbmaaGreat
open Go.RowKit
def sameB (a b : ByteArray) : Bool := a.toList == b.toList
def attAt (l : List (ByteArray × ByteArray)) (k : Nat) : ByteArray × ByteArray := l.getD k (ByteArray.empty, ByteArray.empty)
theorem attAt_lt {l : List (ByteArray × ByteArray)} {k : Nat} (h : k < l.length) : attAt l k = l[k] := by
  unfold attAt; rw [List.getD_eq_getElem?_getD, List.getElem?_eq_getElem h]; rfl
def unsetTo (l : List (ByteArray × ByteArray)) (nm : ByteArray) (k : Nat) : List (ByteArray × ByteArray) := (l.take k).filter fun x => !sameB x.1 nm
def unsetP (l : List (ByteArray × ByteArray)) (nm : ByteArray) : List (ByteArray × ByteArray) := l.filter fun x => !sameB x.1 nm
theorem unsetTo_all (l : List (ByteArray × ByteArray)) (nm : ByteArray) : unsetTo l nm l.length = unsetP l nm := by unfold unsetTo unsetP; simp
theorem unsetTo_miss {l : List (ByteArray × ByteArray)} {nm : ByteArray} {k : Nat} (hk : k < l.length) (h : sameB l[k].1 nm = false) : unsetTo l nm (k + 1) = unsetTo l nm k ++ [l[k]] := by
  unfold unsetTo; rw [List.take_succ_eq_append_getElem hk, List.filter_append]; simp [h]
theorem unsetTo_hit {l : List (ByteArray × ByteArray)} {nm : ByteArray} {k : Nat} (hk : k < l.length) (h : sameB l[k].1 nm = true) : unsetTo l nm (k + 1) = unsetTo l nm k := by
  unfold unsetTo; rw [List.take_succ_eq_append_getElem hk, List.filter_append]; simp [h]
theorem unsetTo_length (l : List (ByteArray × ByteArray)) (nm : ByteArray) (k : Nat) : (unsetTo l nm k).length ≤ l.length := by
  unfold unsetTo; exact Nat.le_trans (List.length_filter_le _ _) (by simp; omega)
theorem attrCells_snoc (l : List (ByteArray × ByteArray)) (x : ByteArray × ByteArray) : attrCells (l ++ [x]) = attrCells l ++ [.string x.1, .string x.2] := by unfold attrCells; simp
theorem nmOf_lt {l : List (ByteArray × ByteArray)} {j : Nat} (hj : j < l.length) : nmOf l j = l[j].1 := by unfold nmOf; rw [List.getD_eq_getElem?_getD, List.getElem?_eq_getElem hj]; rfl
theorem vlOf_lt {l : List (ByteArray × ByteArray)} {j : Nat} (hj : j < l.length) : vlOf l j = l[j].2 := by unfold vlOf; rw [List.getD_eq_getElem?_getD, List.getElem?_eq_getElem hj]; rfl
def AttsAt (w : World) (B : Nat) (v : Value) (l : List (ByteArray × ByteArray)) : Prop := w.ownsRow B 72 2 v l.length (attrCells l)
theorem AttsAt.of_app {w : World} {B : Nat} {v : Value} {l : List (ByteArray × ByteArray)} {x : ByteArray × ByteArray} (h : w.ownsRow B 72 2 v (l.length + 1) (attrCells l ++ [.string x.1, .string x.2])) : AttsAt w B v (l ++ [x]) := by
  unfold AttsAt; rw [attrCells_snoc, List.length_append]; exact h
set_option maxRecDepth 100000 in
set_option maxHeartbeats 1600000 in
theorem unset_any (ao : Option Addr) (n c : Nat) (l : List (ByteArray × ByteArray)) (nm : ByteArray) (w : World) (hn : n = l.length) (h5 : n ≤ 1000000) (hA : AttrsAt w ao n (nmOf l) (vlOf l)) :
    Calls Tryz.prog 57 #[.slice ao n c, .string nm] w fun e w' => ∃ q, e = .returned q ∧ AttsAt w' w.heap.size q (unsetP l nm) ∧ Below w.heap.size w w' := by
  obtain ⟨i0, hi, hz0, hz1, hz2⟩ := info_parts attrInfo'
  have HA := hide hA
  have HN := hide hn
  clear hA hn
  go_enter Tryz.func57, Tryz.ntmps57
  go_wp2
  go_loopw [5, 6] (fun o i wr => ∃ (k : Nat) (q : Value), k ≤ n ∧ i = .int .i64 k ∧ q = o ∧ Hid (AttsAt wr w.heap.size q (unsetTo l nm k)) ∧ Below w.heap.size w wr) (fun _ i _ => n - (intOf i).toNat)
  case atStart => exact ⟨0, _, Nat.zero_le _, rfl, rfl, hide (show AttsAt _ _ _ [] from World.ownsRow_nil _ _ _ _), Below.refl _ _⟩
  case round =>
    obtain ⟨k, q, hk, rfl, rfl, hown, hbel⟩ := hrel
    by_cases hlt : k < n
    · have hll : k < l.length := by rw [← HN.out]; exact hlt
      obtain ⟨b, o, rfl, hb, c0, c1, _, _⟩ := HA.out k hlt
      have d0 := (hbel.cell (p := ⟨b, o + k * 2, none⟩) hb).trans c0
      have d1 := (hbel.cell (p := ⟨b, o + k * 2 + 1, none⟩) hb).trans c1
      rw [nmOf_lt hll] at d0
      rw [vlOf_lt hll] at d1
      have hsz := hbel.size
      have hul := unsetTo_length l nm k
      rw [← HN.out] at hul
      clear c0 c1
      cases hS : sameB l[k].1 nm with
      | true =>
        have HX := hide (unsetTo_hit hll hS)
        have sb : (l[k].1.toList == nm.toList) = true := hS
        rw [← HX.out] at hown
        clear hS HX
        generalize l[k] = x at *
        go_wp2
        go_roundw
        case rel => exact ⟨k + 1, _, by omega, by go_num, rfl, hown, hbel⟩
        case measure => simp [intOf]; omega
      | false =>
        have HX := hide (unsetTo_miss hll hS)
        have sb : (l[k].1.toList == nm.toList) = false := hS
        clear hS
        generalize l[k] = x at *
        obtain ⟨x0, x1⟩ := x
        simp only [] at *
        have hbn : b ≠ wr.heap.size := by omega
        go_wp2_with ((at_builtin; refine wpList_app _ rfl (.tmp 20) (.tmp 25) 31 rfl w.heap.size 72 i0 _ 2 32 Tryz.underlying31 hi hz0 hz1 hz2 rfl q _ _ rfl ((unhide hown).alloc _) (some ⟨wr.heap.size, 0, none⟩) 1 1 [.string x0, .string x1] rfl (by simp) rfl (cells_new _ _ _) (by simp [Value.oneCell']) (by omega) (by omega) (by simp; omega) ?_; intro q' w1 ho1 hg1 _))
        have hb1 := (hbel.alloc hsz (.cells #[.string x0, .string x1] 72)).grown hg1.out.by (by simp; omega) (fun j hj => (World.ownsRow.lt (unhide hown) j hj).1)
        have HO := hide (AttsAt.of_app (x := (x0, x1)) ho1.out)
        rw [← HX.out] at HO
        clear ho1 hg1 hown
        go_wp2
        go_roundw
        case rel => exact ⟨k + 1, _, by omega, by go_num, rfl, HO, hb1⟩
        case measure => simp [intOf]; omega
    · have hkn : k = l.length := by rw [← HN.out]; omega
      have HX := hide (unsetTo_all l nm)
      rw [hkn, HX.out] at hown
      clear hkn
      go_wp2
      go_ret
      exact ⟨_, rfl, hown.out, hbel⟩
def setTo (l : List (ByteArray × ByteArray)) (nm vl : ByteArray) : Nat → List (ByteArray × ByteArray) × Bool
  | 0 => ([], false)
  | k + 1 =>
    let r := setTo l nm vl k
    let o := if r.2 = false ∧ Op.bytesLess (attAt l k).1.toList nm.toList = false then r.1 ++ [(nm, vl)] else r.1
    (if sameB (attAt l k).1 nm then o else o ++ [attAt l k], r.2 || !Op.bytesLess (attAt l k).1.toList nm.toList)
def setP (l : List (ByteArray × ByteArray)) (nm vl : ByteArray) : List (ByteArray × ByteArray) := if (setTo l nm vl l.length).2 then (setTo l nm vl l.length).1 else (setTo l nm vl l.length).1 ++ [(nm, vl)]
theorem setTo_length (l : List (ByteArray × ByteArray)) (nm vl : ByteArray) : ∀ k, (setTo l nm vl k).1.length ≤ 2 * k := by
  intro k
  induction k with
  | zero => exact Nat.le_refl _
  | succ k ih =>
    rw [setTo]
    simp only []
    split <;> split <;> (try simp only [List.length_append, List.length_singleton]) <;> omega
theorem row_far {w wr w1 : World} {q q' : Value} {l : List (ByteArray × ByteArray)} {O : Obj} {p : Addr} (hown : Hid (AttsAt wr w.heap.size q l)) (hw : p.block < wr.heap.size) (hp : p.block < w.heap.size) (hg : Hid (Grew (wr.alloc O) w1 q q')) : w1.cell? p = wr.cell? p := by
  have h1 := hg.out.by.cell_far p (by simp; omega) (fun e => by have := (World.ownsRow.lt hown.out p.block e.symm).1; omega)
  rw [h1]
  exact World.cell?_of_block (Below.heap_alloc _ _ _ hw)
set_option maxRecDepth 100000 in
set_option maxHeartbeats 4000000 in
theorem set_any (ao : Option Addr) (n c : Nat) (l : List (ByteArray × ByteArray)) (nm vl : ByteArray) (w : World) (hn : n = l.length) (h5 : n ≤ 1000000) (hA : AttrsAt w ao n (nmOf l) (vlOf l)) :
    Calls Tryz.prog 58 #[.slice ao n c, .string nm, .string vl] w fun e w' => ∃ q, e = .returned q ∧ AttsAt w' w.heap.size q (setP l nm vl) ∧ Below w.heap.size w w' := by
  obtain ⟨i0, hi, hz0, hz1, hz2⟩ := info_parts attrInfo'
  have HA := hide hA
  have HN := hide hn
  clear hA hn
  go_enter Tryz.func58, Tryz.ntmps58
  go_wp2
  go_loopw [7, 8, 9] (fun o b i wr => ∃ (k : Nat) (q : Value) (L : List (ByteArray × ByteArray)) (d : Bool), k ≤ n ∧ i = .int .i64 k ∧ q = o ∧ b = .bool d ∧ Hid (setTo l nm vl k = (L, d)) ∧ Hid (AttsAt wr w.heap.size q L) ∧ Below w.heap.size w wr) (fun _ _ i _ => n - (intOf i).toNat)
  case atStart => exact ⟨0, _, [], false, Nat.zero_le _, rfl, rfl, rfl, rfl, hide (show AttsAt _ _ _ [] from World.ownsRow_nil _ _ _ _), Below.refl _ _⟩
  case round =>
    obtain ⟨k, q, L, d, hk, rfl, rfl, rfl, hset, hown, hbel⟩ := hrel
    have hLl : L.length ≤ 2 * k := by have := setTo_length l nm vl k; rw [hset.out] at this; exact this
    by_cases hlt : k < n
    · have hll : k < l.length := by rw [← HN.out]; exact hlt
      obtain ⟨b, o, rfl, hb, c0, c1, _, _⟩ := HA.out k hlt
      have d0 := (hbel.cell (p := ⟨b, o + k * 2, none⟩) hb).trans c0
      have d1 := (hbel.cell (p := ⟨b, o + k * 2 + 1, none⟩) hb).trans c1
      rw [nmOf_lt hll] at d0
      rw [vlOf_lt hll] at d1
      have hsz := hbel.size
      clear c0 c1
      have HX : Hid (setTo l nm vl (k + 1) = (if sameB l[k].1 nm then (if d = false ∧ Op.bytesLess l[k].1.toList nm.toList = false then L ++ [(nm, vl)] else L) else (if d = false ∧ Op.bytesLess l[k].1.toList nm.toList = false then L ++ [(nm, vl)] else L) ++ [l[k]], d || !Op.bytesLess l[k].1.toList nm.toList)) := by
        refine hide ?_
        rw [setTo, hset.out, attAt_lt hll]
      generalize l[k] = x at *
      obtain ⟨x0, x1⟩ := x
      simp only [] at *
      have hbn : b ≠ wr.heap.size := by omega
      have hbw : b < wr.heap.size := by omega
      clear hset
      cases hL : Op.bytesLess x0.toList nm.toList <;> cases hS : sameB x0 nm <;> cases d
      all_goals
        rw [hL, hS] at HX
        have sb := hS
        unfold sameB at sb
        clear hS
      · have HY : Hid (setTo l nm vl (k + 1) = (L ++ [(nm, vl)] ++ [(x0, x1)], true)) := by simpa [Hid] using HX
        clear HX
        have hL2 : (L ++ [(nm, vl)]).length ≤ 2 * k + 1 := by simp; omega
        go_wp2_with (first | (at_builtin; refine wpList_app _ rfl (.tmp 27) (.tmp 31) 31 rfl w.heap.size 72 i0 _ 2 32 Tryz.underlying31 hi hz0 hz1 hz2 rfl q _ _ rfl ((unhide hown).alloc _) (some ⟨wr.heap.size, 0, none⟩) 1 1 [.string nm, .string vl] rfl (by simp) rfl (cells_new _ _ _) (by simp [Value.oneCell']) (by omega) (by omega) (by simp; omega) ?_; intro q' w1 ho1 hg1 _; have hb1 := hide ((hbel.alloc hsz (.cells #[.string nm, .string vl] 72)).grown (unhide hg1).by (by simp; omega) (fun j hj => (World.ownsRow.lt (unhide hown) j hj).1)); have HO := hide (AttsAt.of_app (x := (nm, vl)) (unhide ho1)); have t0 := (row_far hown hbw hb hg1).trans d0; have t1 := (row_far hown hbw hb hg1).trans d1; have s1 := (unhide hb1).size; have hbn1 : b ≠ w1.heap.size := (by omega); clear ho1 hg1 d0 d1) | (at_builtin; refine wpList_app _ rfl (.tmp 40) (.tmp 45) 31 rfl w.heap.size 72 i0 _ 2 32 Tryz.underlying31 hi hz0 hz1 hz2 rfl q' _ _ rfl ((unhide HO).alloc _) (some ⟨w1.heap.size, 0, none⟩) 1 1 [.string x0, .string x1] rfl (by simp) rfl (cells_new _ _ _) (by simp [Value.oneCell']) (by omega) (by omega) (by simp; omega) ?_; intro q2 w2 ho2 hg2 _))
        have hb2 := ((unhide hb1).alloc s1 (.cells #[.string x0, .string x1] 72)).grown hg2.out.by (by simp; omega) (fun j hj => (World.ownsRow.lt (unhide HO) j hj).1)
        have HO2 := hide (AttsAt.of_app (x := (x0, x1)) ho2.out)
        clear ho2 hg2 HO hown
        go_wp2
        go_roundw
        case rel => exact ⟨k + 1, _, _, _, by omega, by go_num, rfl, rfl, HY, HO2, hb2⟩
        case measure => simp [intOf]; omega
      · have HY : Hid (setTo l nm vl (k + 1) = (L ++ [(x0, x1)], true)) := by simpa [Hid] using HX
        clear HX
        go_wp2_with ((at_builtin; refine wpList_app _ rfl (.tmp 40) (.tmp 45) 31 rfl w.heap.size 72 i0 _ 2 32 Tryz.underlying31 hi hz0 hz1 hz2 rfl q _ _ rfl ((unhide hown).alloc _) (some ⟨wr.heap.size, 0, none⟩) 1 1 [.string x0, .string x1] rfl (by simp) rfl (cells_new _ _ _) (by simp [Value.oneCell']) (by omega) (by omega) (by simp; omega) ?_; intro q' w1 ho1 hg1 _))
        have hb1 := (hbel.alloc hsz (.cells #[.string x0, .string x1] 72)).grown hg1.out.by (by simp; omega) (fun j hj => (World.ownsRow.lt (unhide hown) j hj).1)
        have HO := hide (AttsAt.of_app (x := (x0, x1)) ho1.out)
        clear ho1 hg1 hown
        go_wp2
        go_roundw
        case rel => exact ⟨k + 1, _, _, _, by omega, by go_num, rfl, rfl, HY, HO, hb1⟩
        case measure => simp [intOf]; omega
      · have HY : Hid (setTo l nm vl (k + 1) = (L ++ [(nm, vl)], true)) := by simpa [Hid] using HX
        clear HX
        go_wp2_with ((at_builtin; refine wpList_app _ rfl (.tmp 27) (.tmp 31) 31 rfl w.heap.size 72 i0 _ 2 32 Tryz.underlying31 hi hz0 hz1 hz2 rfl q _ _ rfl ((unhide hown).alloc _) (some ⟨wr.heap.size, 0, none⟩) 1 1 [.string nm, .string vl] rfl (by simp) rfl (cells_new _ _ _) (by simp [Value.oneCell']) (by omega) (by omega) (by simp; omega) ?_; intro q' w1 ho1 hg1 _; have hb1 := hide ((hbel.alloc hsz (.cells #[.string nm, .string vl] 72)).grown (unhide hg1).by (by simp; omega) (fun j hj => (World.ownsRow.lt (unhide hown) j hj).1)); have HO := hide (AttsAt.of_app (x := (nm, vl)) (unhide ho1)); have t0 := (row_far hown hbw hb hg1).trans d0; have t1 := (row_far hown hbw hb hg1).trans d1; have s1 := (unhide hb1).size; have hbn1 : b ≠ w1.heap.size := (by omega); clear ho1 hg1 d0 d1))
        go_wp2
        go_roundw
        case rel => exact ⟨k + 1, _, _, _, by omega, by go_num, rfl, rfl, HY, HO, hb1.out⟩
        case measure => simp [intOf]; omega
      · have HY : Hid (setTo l nm vl (k + 1) = (L, true)) := by simpa [Hid] using HX
        clear HX
        go_wp2
        go_roundw
        case rel => exact ⟨k + 1, _, _, _, by omega, by go_num, rfl, rfl, HY, hown, hbel⟩
        case measure => simp [intOf]; omega
      · have HY : Hid (setTo l nm vl (k + 1) = (L ++ [(x0, x1)], false)) := by simpa [Hid] using HX
        clear HX
        go_wp2_with ((at_builtin; refine wpList_app _ rfl (.tmp 40) (.tmp 45) 31 rfl w.heap.size 72 i0 _ 2 32 Tryz.underlying31 hi hz0 hz1 hz2 rfl q _ _ rfl ((unhide hown).alloc _) (some ⟨wr.heap.size, 0, none⟩) 1 1 [.string x0, .string x1] rfl (by simp) rfl (cells_new _ _ _) (by simp [Value.oneCell']) (by omega) (by omega) (by simp; omega) ?_; intro q' w1 ho1 hg1 _))
        have hb1 := (hbel.alloc hsz (.cells #[.string x0, .string x1] 72)).grown hg1.out.by (by simp; omega) (fun j hj => (World.ownsRow.lt (unhide hown) j hj).1)
        have HO := hide (AttsAt.of_app (x := (x0, x1)) ho1.out)
        clear ho1 hg1 hown
        go_wp2
        go_roundw
        case rel => exact ⟨k + 1, _, _, _, by omega, by go_num, rfl, rfl, HY, HO, hb1⟩
        case measure => simp [intOf]; omega
      · have HY : Hid (setTo l nm vl (k + 1) = (L ++ [(x0, x1)], true)) := by simpa [Hid] using HX
        clear HX
        go_wp2_with ((at_builtin; refine wpList_app _ rfl (.tmp 40) (.tmp 45) 31 rfl w.heap.size 72 i0 _ 2 32 Tryz.underlying31 hi hz0 hz1 hz2 rfl q _ _ rfl ((unhide hown).alloc _) (some ⟨wr.heap.size, 0, none⟩) 1 1 [.string x0, .string x1] rfl (by simp) rfl (cells_new _ _ _) (by simp [Value.oneCell']) (by omega) (by omega) (by simp; omega) ?_; intro q' w1 ho1 hg1 _))
        have hb1 := (hbel.alloc hsz (.cells #[.string x0, .string x1] 72)).grown hg1.out.by (by simp; omega) (fun j hj => (World.ownsRow.lt (unhide hown) j hj).1)
        have HO := hide (AttsAt.of_app (x := (x0, x1)) ho1.out)
        clear ho1 hg1 hown
        go_wp2
        go_roundw
        case rel => exact ⟨k + 1, _, _, _, by omega, by go_num, rfl, rfl, HY, HO, hb1⟩
        case measure => simp [intOf]; omega
      · have HY : Hid (setTo l nm vl (k + 1) = (L, false)) := by simpa [Hid] using HX
        clear HX
        go_wp2
        go_roundw
        case rel => exact ⟨k + 1, _, _, _, by omega, by go_num, rfl, rfl, HY, hown, hbel⟩
        case measure => simp [intOf]; omega
      · have HY : Hid (setTo l nm vl (k + 1) = (L, true)) := by simpa [Hid] using HX
        clear HX
        go_wp2
        go_roundw
        case rel => exact ⟨k + 1, _, _, _, by omega, by go_num, rfl, rfl, HY, hown, hbel⟩
        case measure => simp [intOf]; omega
    · have hkn : k = l.length := by rw [← HN.out]; omega
      rw [hkn] at hset
      clear hkn
      cases d
      · have HS : Hid (setP l nm vl = L ++ [(nm, vl)]) := by refine hide ?_; unfold setP; rw [hset.out]; rfl
        clear hset
        have hsz := hbel.size
        go_wp2_with ((at_builtin; refine wpList_app _ rfl (.tmp 49) (.tmp 53) 31 rfl w.heap.size 72 i0 _ 2 32 Tryz.underlying31 hi hz0 hz1 hz2 rfl q _ _ rfl ((unhide hown).alloc _) (some ⟨wr.heap.size, 0, none⟩) 1 1 [.string nm, .string vl] rfl (by simp) rfl (cells_new _ _ _) (by simp [Value.oneCell']) (by omega) (by omega) (by simp; omega) ?_; intro q' w1 ho1 hg1 _))
        have hb1 := (hbel.alloc hsz (.cells #[.string nm, .string vl] 72)).grown hg1.out.by (by simp; omega) (fun j hj => (World.ownsRow.lt (unhide hown) j hj).1)
        have HO := hide (AttsAt.of_app (x := (nm, vl)) ho1.out)
        clear ho1 hg1 hown
        go_wp2
        go_ret
        exact ⟨_, rfl, by rw [HS.out]; exact HO.out, hb1⟩
      · have HS : Hid (setP l nm vl = L) := by refine hide ?_; unfold setP; rw [hset.out]; rfl
        clear hset
        go_wp2
        go_ret
        exact ⟨_, rfl, by rw [HS.out]; exact hown.out, hbel⟩
end Go.Proofs.YtobgcaemnpkbmaaGreat
namespace Go.Proofs.YtobgcaemnpkbmaaGreat
open Go.RowKit
theorem atP_mem {R : List RN} {id : Int} (h : ∃ m, m ∈ R ∧ m.id = id) : ∃ k, ∃ hk : k < R.length, atP R id = (k : Int) ∧ R[k].id = id := by
  unfold atP
  cases hf : R.findIdx? (fun n => n.id == id) with
  | none =>
    rw [List.findIdx?_eq_none_iff] at hf
    obtain ⟨m, hm, e⟩ := h
    have := hf m hm
    simp [e] at this
  | some k =>
    rw [List.findIdx?_eq_some_iff_getElem] at hf
    obtain ⟨hk, e, _⟩ := hf
    exact ⟨k, hk, rfl, by simpa using e⟩
def parOf (R : List RN) (id : Int) : Int := parAt R (atP R id).toNat
def inP (R : List RN) : Nat → Int → Int → Bool
  | 0, _, _ => false
  | f + 1, id, other => if id = 0 then false else if id = other then true else inP R f (parOf R id) other
theorem inP_zero (R : List RN) (f : Nat) (o : Int) : inP R f 0 o = false := by cases f <;> simp [inP]
structure Up (R : List RN) (rk : Int → Nat) : Prop where
  par : ∀ n, n ∈ R → n.par = 0 ∨ ∃ m, m ∈ R ∧ m.id = n.par
  rank : ∀ n, n ∈ R → n.par ≠ 0 → rk n.par < rk n.id
set_option maxRecDepth 100000 in
set_option maxHeartbeats 1600000 in
theorem within_any (S : Nat → Prop) (p : Nat) (R : List RN) (last : Int) (v : Value) (rk : Int → Nat) (hU : Up R rk) (id other : Int) (hid : ∃ m, m ∈ R ∧ m.id = id) (w : World) (h : RefAt S w p R last v) :
    Calls Tryz.prog 54 #[.pointer (some ⟨p, 0, none⟩), .int .i64 id, .int .i64 other] w fun e w' => e = .returned (.bool (inP R (rk id + 1) id other)) ∧ Below w.heap.size w w' := by
  have HR := hide h
  have HU := hide hU
  have HD : Hid (id = 0 ∨ ∃ m, m ∈ R ∧ m.id = id) := hide (.inr hid)
  clear h hU hid
  go_enter Tryz.func54, Tryz.ntmps54
  go_wp2
  go_loopw [1] (fun i wr => ∃ (x : Int) (m : Nat), i = .int .i64 x ∧ Hid (x = 0 ∨ rk x < m) ∧ Hid (x = 0 ∨ ∃ m, m ∈ R ∧ m.id = x) ∧ Hid (inP R m x other = inP R (rk id + 1) id other) ∧ Below w.heap.size w wr) (fun i _ => if intOf i = 0 then 0 else rk (intOf i) + 1)
  case atStart => exact ⟨id, rk id + 1, rfl, hide (.inr (Nat.lt_succ_self _)), HD, rfl, Below.refl _ _⟩
  case round =>
    obtain ⟨x, m, rfl, hm, hx, hin, hbel⟩ := hrel
    by_cases h0 : x = 0
    · subst h0
      have HX : Hid (inP R (rk id + 1) id other = false) := by rw [← hin.out]; exact inP_zero R m other
      clear hin
      go_wp2
      go_ret
      exact ⟨ret_bool HX.out.symm, hbel⟩
    · have hm := hm.out.resolve_left h0
      obtain ⟨m, rfl⟩ : ∃ m', m = m' + 1 := ⟨m - 1, by omega⟩
      by_cases ho : x = other
      · subst ho
        have HX : Hid (inP R (rk id + 1) id x = true) := by rw [← hin.out]; simp [Hid, inP, h0]
        clear hin
        go_wp2
        go_ret
        exact ⟨ret_bool HX.out.symm, hbel⟩
      · obtain ⟨k, hk, ha, hxk⟩ := atP_mem (R := R) (id := x) (by rcases hx.out with e | e; exact absurd e h0; exact e)
        have HRr := hide (HR.out.below hbel)
        obtain ⟨g, cap, rfl, hcc, hg, _, _, hcell⟩ := HRr.out.at (by omega)
        have c0 := HRr.out.c0
        have d1 : wr.cell? ⟨g, k * 6 + 1, none⟩ = some (.int .i64 R[k].par) := hcell k 1 hk (by omega)
        clear hcell
        have hP : parOf R x = R[k].par := by unfold parOf; rw [ha]; exact parAt_lt hk
        have HX : Hid (inP R m R[k].par other = inP R (rk id + 1) id other) := by
          rw [← hin.out, ← hP]
          simp [Hid, inP, h0, ho]
        have HP := hide (HU.out.par R[k] (List.getElem_mem hk))
        have hrk : R[k].par = 0 ∨ rk R[k].par < rk x := by
          by_cases e : R[k].par = 0
          · exact .inl e
          · right; have := HU.out.rank R[k] (List.getElem_mem hk) e; rwa [hxk] at this
        have hrk0 : rk R[k].par < m ∨ R[k].par = 0 := by omega
        have hA : ∀ w', RefAt S w' p R last (.slice (some ⟨g, 0, none⟩) R.length cap) → Calls Tryz.prog 49 #[.pointer (some ⟨p, 0, none⟩), .int .i64 x] w' fun e w'' => e = .returned (.int .i64 k) ∧ w'' = w' := by
          intro w' hw
          rw [← ha]
          exact at_any S p R last _ x w' hw
        have HA := hide hA
        clear hA
        have hfew := HR.out.few
        have i1 : (0 : Int) ≤ (k : Int) := by omega
        have i2 : (k : Int) < (R.length : Int) := by omega
        clear ha hin hxk hP
        generalize R[k].par = y at *
        have HE := hide hrk
        have HE0 := hide hrk0
        clear hrk hrk0
        go_wp2
        go_big_quiet ((go_at_call 49; exact Calls.quiet_of_same (unhide HA _ ((unhide HRr).below (drewN_of (Below.refl _ _) _)))))
        go_wp2
        go_roundw
        case rel =>
          exact ⟨y, m, rfl, hide HE0.out.symm, HP, HX, drewN_of hbel _⟩
        case measure =>
          show (if y = 0 then 0 else rk y + 1) < (if x = 0 then 0 else rk x + 1)
          rw [if_neg h0]
          rcases HE.out with e | e
          · rw [if_pos e]; omega
          · split <;> omega
end Go.Proofs.YtobgcaemnpkbmaaGreat
namespace Go.Proofs.YtobgcaemnpkbmaaGreat
open Go.RowKit
structure Touch (S : Nat → Prop) (w w' : World) : Prop where
  os : w'.os = w.os
  tape : w'.tape = w.tape
  output : w'.output = w.output
  size : w.heap.size ≤ w'.heap.size
  block : ∀ k, k < w.heap.size → ¬ S k → w'.heap[k]? = w.heap[k]?
theorem Touch.of_below {S : Nat → Prop} {w w' : World} (h : Below w.heap.size w w') : Touch S w w' := ⟨h.os, h.tape, h.output, h.size, fun k hk _ => h.block k hk⟩
theorem Touch.trans {S : Nat → Prop} {a b c : World} (h : Touch S a b) (k : Touch (fun b => S b ∨ a.heap.size ≤ b) b c) : Touch S a c :=
  ⟨k.os.trans h.os, k.tape.trans h.tape, k.output.trans h.output, Nat.le_trans h.size k.size, fun i hi hn => (k.block i (Nat.lt_of_lt_of_le hi h.size) (fun e => by rcases e with e | e; exact hn e; omega)).trans (h.block i hi hn)⟩
theorem Touch.mono {S S' : Nat → Prop} {w w' : World} (h : Touch S w w') (hS : ∀ b, b < w.heap.size → S b → S' b) : Touch S' w w' := ⟨h.os, h.tape, h.output, h.size, fun k hk hn => h.block k hk (fun e => hn (hS k hk e))⟩
theorem Touch.set {S : Nat → Prop} {w w' : World} (h : Touch S w w') {a : Addr} (ha : S a.block ∨ w.heap.size ≤ a.block) (u : Value) : Touch S w (w'.setCell a u) :=
  ⟨h.os, h.tape, h.output, by simpa [World.setCell] using h.size, fun k hk hn => (Below.heap_setCell w' a u k (fun e => by rcases ha with ha | ha; exact hn (by rw [e]; exact ha); omega)).trans (h.block k hk hn)⟩
end Go.Proofs.YtobgcaemnpkbmaaGreat
