/- Bre Ha Hz Hb -/
import Derived.Test.YtobgcaemnpkbmaaKb37
import Derived.Test.YtobgcaemnpkbmaaKb03
import Derived.BigQuiet
import Derived.Test.YtobgcaemnpkbmaaKb23
import Derived.Test.YtobgcaemnpkbmaaKb27
namespace Go.Proofs.Ytobgcaemnpkbmaa
open Go.RowKit
theorem kidIds_bare (R : List RN) (q : Int) : kidIds (bareL R) q = kidIds R q := by
  unfold kidIds bareL
  rw [List.filter_map, List.map_map]
  rfl
theorem blkOf_bare (nb : Int → Nat) (R : List RN) (i : Int) : blkOf nb (bareL R) i = blkOf nb R i := by
  unfold blkOf bareL
  rw [List.any_map]
  rfl
theorem PNode.bare {ρ : Roles} {nb : Int → Nat} {w : World} {R : List RN} {n : RN} {av kv : Value} : PNode ρ nb w (bareL R) n.bare av kv ↔ PNode ρ nb w R n av kv := by
  constructor
  · rintro ⟨h1, h2, h3, h4, h5, h6, h7, h8, h9, h10, h11⟩
    exact ⟨h1, h2, h3, h4, by have h5 := h5; rw [kidIds_bare] at h5; exact h5, h6, h7, h8, h9, h10, h11⟩
  · rintro ⟨h1, h2, h3, h4, h5, h6, h7, h8, h9, h10, h11⟩
    exact ⟨h1, h2, h3, h4, by rw [kidIds_bare]; exact h5, h6, h7, h8, h9, h10, h11⟩
theorem Dom.bare {ρ : Roles} {nb : Int → Nat} {mb : Nat} {rt : Option Nat} {w : World} {q : Nat} {R : List RN} {last : Int} : Dom ρ nb mb rt w q (bareL R) last ↔ Dom ρ nb mb rt w q R last := by
  have hb : blkOf nb (bareL R) = blkOf nb R := funext (blkOf_bare nb R)
  constructor
  · rintro ⟨h1, h2, h3, h4, h5, h6, h7⟩
    rw [hb, bareL_length] at h4
    rw [bareL_length] at h7
    refine ⟨h1, h2, h3, h4, fun n hn => ?_, h6, h7⟩
    obtain ⟨av, kv, hp⟩ := h5 n.bare (bare_mem.2 ⟨n, hn, rfl⟩)
    exact ⟨av, kv, PNode.bare.1 hp⟩
  · rintro ⟨h1, h2, h3, h4, h5, h6, h7⟩
    refine ⟨h1, h2, h3, by rw [hb, bareL_length]; exact h4, fun n hn => ?_, h6, by rw [bareL_length]; exact h7⟩
    obtain ⟨m, hm, rfl⟩ := bare_mem.1 hn
    obtain ⟨av, kv, hp⟩ := h5 m hm
    exact ⟨av, kv, PNode.bare.2 hp⟩
theorem Fine.bare {R : List RN} : Fine (bareL R) ↔ Fine R := by
  constructor
  · intro h n hn
    exact h n.bare (bare_mem.2 ⟨n, hn, rfl⟩)
  · intro h n hn
    obtain ⟨m, hm, rfl⟩ := bare_mem.1 hn
    exact h m hm
end Go.Proofs.Ytobgcaemnpkbmaa
namespace Go.Proofs.Ytobgcaemnpkbmaa
open Go.RowKit
set_option maxRecDepth 100000 in
set_option maxHeartbeats 1600000 in
theorem keepSame_any (a1 a2 : Option Addr) (n c1 c2 : Nat) (L M : Nat → Nod) (w : World) (hn : n ≤ maxLen) (h1 : ListAt w a1 n L) (h2 : ListAt w a2 n M)
    (hs : ∀ i, i < n → (L i).d = (M i).d ∧ (L i).t = (M i).t ∧ (L i).k = (M i).k ∧ (L i).x = (M i).x ∧ (L i).an = (M i).an ∧ ∀ j, j < (M i).an → (L i).nm j = (M i).nm j ∧ (L i).vl j = (M i).vl j) :
    Calls Try.prog 17 #[.slice a1 n c1, .slice a2 n c2] w fun e w' => e = .returned (.bool true) ∧ Below w.heap.size w w' := by
  unfold maxLen at hn
  have H1 := hide h1
  have H2 := hide h2
  have HS := hide hs
  clear h1 h2 hs
  go_enter Try.func17, Try.ntmps17
  go_wp2_with fail
  go_loopw [5, 6] (fun i _ wr => ∃ k : Nat, k ≤ n ∧ i = .int .i64 k ∧ Below w.heap.size w wr) (fun i _ _ => n - (intOf i).toNat)
  case atStart => exact ⟨0, Nat.zero_le _, rfl, Below.refl _ _⟩
  case round =>
    obtain ⟨k, hk, rfl, hbel⟩ := hrel
    by_cases hlt : k < n
    · obtain ⟨b1, o1, rfl, hL⟩ := H1.out (by omega)
      obtain ⟨b2, o2, rfl, hM⟩ := H2.out (by omega)
      have l1 := hL.lt
      have l2 := hM.lt
      have A := hL.node k hlt
      have B := hM.node k hlt
      obtain ⟨u0, u1, u2, u3, u4, u5⟩ := HS.out k hlt
      have f0 := (hbel.cell (p := ⟨b1, o1 + k * 5, none⟩) l1).trans A.c0
      have f1 := (hbel.cell (p := ⟨b1, o1 + k * 5 + 1, none⟩) l1).trans A.c1
      have f2 := (hbel.cell (p := ⟨b1, o1 + k * 5 + 2, none⟩) l1).trans A.c2
      have f3 := (hbel.cell (p := ⟨b1, o1 + k * 5 + 3, none⟩) l1).trans A.c3
      have f4 := (hbel.cell (p := ⟨b1, o1 + k * 5 + 4, none⟩) l1).trans A.c4
      have g0 := (hbel.cell (p := ⟨b2, o2 + k * 5, none⟩) l2).trans B.c0
      have g1 := (hbel.cell (p := ⟨b2, o2 + k * 5 + 1, none⟩) l2).trans B.c1
      have g2 := (hbel.cell (p := ⟨b2, o2 + k * 5 + 2, none⟩) l2).trans B.c2
      have g3 := (hbel.cell (p := ⟨b2, o2 + k * 5 + 3, none⟩) l2).trans B.c3
      have g4 := (hbel.cell (p := ⟨b2, o2 + k * 5 + 4, none⟩) l2).trans B.c4
      have HA := hide (A.ok.at'.below hbel)
      have HB := hide (B.ok.at'.below hbel)
      have hAn := A.ok.an
      rw [u0] at f0
      rw [u1] at f1
      rw [u2] at f2
      rw [u4] at f3 HA hAn
      rw [u3] at f4
      have HE := hide u5
      clear u0 u1 u2 u3 u4 u5 A B hL hM H1 H2
      generalize (L k).ao = ao1 at *
      generalize (L k).ac = ac1 at *
      generalize (L k).nm = nm1 at *
      generalize (L k).vl = vl1 at *
      generalize M k = m at *
      unfold maxLen at hAn
      have i1 : (0 : Int) ≤ (k : Int) := by omega
      have i2 : (k : Int) < (n : Int) := by omega
      have hsz := hbel.size
      have HBel := hide hbel
      have j1 : b1 < wr.heap.size := by omega
      have j2 : b2 < wr.heap.size := by omega
      clear hbel
      go_wp2_with fail
      simp only [List.append]
      go_big_quiet (fail)
      go_wp2_with fail
      have hb0 : Below wr.heap.size wr (wr.drewN nq) := drewN_of (.refl _ _) nq
      generalize wr.drewN nq = w1 at hb0 ⊢
      go_loopw [6] (fun i w2 => ∃ j : Nat, j ≤ m.an ∧ i = .int .i64 j ∧ Below wr.heap.size wr w2) (fun i _ => m.an - (intOf i).toNat)
      case atStart => exact ⟨0, Nat.zero_le _, rfl, hb0⟩
      case round =>
        obtain ⟨j, hj, rfl, hbi⟩ := hrel
        have f3' := (hbi.cell (p := ⟨b1, o1 + k * 5 + 3, none⟩) j1).trans f3
        have g3' := (hbi.cell (p := ⟨b2, o2 + k * 5 + 3, none⟩) j2).trans g3
        by_cases hlj : j < m.an
        · obtain ⟨e1, e2⟩ := HE.out j hlj
          obtain ⟨d1, p1, rfl, hd1, c0, c1', _, _⟩ := HA.out j hlj
          obtain ⟨d2, p2, hao, hd2, c2, c3, _, _⟩ := HB.out j hlj
          rw [hao] at g3'
          rw [e1] at c0
          rw [e2] at c1'
          have x0 := (hbi.cell (p := ⟨d1, p1 + j * 2, none⟩) hd1).trans c0
          have x1 := (hbi.cell (p := ⟨d1, p1 + j * 2 + 1, none⟩) hd1).trans c1'
          have y0 := (hbi.cell (p := ⟨d2, p2 + j * 2, none⟩) hd2).trans c2
          have y1 := (hbi.cell (p := ⟨d2, p2 + j * 2 + 1, none⟩) hd2).trans c3
          clear c0 c1' c2 c3 f0 f1 f2 f3 f4 g0 g1 g2 g3 g4 e1 e2 hao
          generalize m.nm j = z0 at *
          generalize m.vl j = z1 at *
          have i3 : (0 : Int) ≤ (j : Int) := by omega
          have i4 : (j : Int) < (m.an : Int) := by omega
          go_wp2_with fail
          go_big_quiet (fail)
          go_wp2_with fail
          go_roundw
          case rel => exact ⟨j + 1, by omega, by go_num, drewN_of hbi _⟩
          case measure => simp [intOf]; omega
        · go_wp2_with fail
          go_roundw
          case rel => exact ⟨k + 1, by omega, by go_num, HBel.out.trans (hbi.mono hsz)⟩
          case measure => simp [intOf]; omega
    · go_wp2_with fail
      go_ret
      exact ⟨rfl, hbel⟩
end Go.Proofs.Ytobgcaemnpkbmaa
namespace Go.Proofs.Ytobgcaemnpkbmaa
open Go.RowKit
set_option maxHeartbeats 2000000 in
set_option maxRecDepth 100000 in
theorem apply_big (ρ : Roles) (nb : Int → Nat) (mb : Nat) (w : World) (q : Nat) (R : List RN) (last : Int) (h : Dom ρ nb mb (some (nb 1)) w q R last) (hok : DocOk R last) (hF : Fine R) (ao : Option Addr) (n c : Nat) (X : Nat → Pat) (hl : last + n ≤ 4611686018427387904) (hn : n ≤ 2199023255552) (hX : PListAt w ao n X) (hfree : 0 < n → ∀ a, ao = some a → ρ a.block = none) (hx : ∀ i, i < n → (X i).Ok ∧ (X i).Ints) :
    Calls Try.prog 28 #[.pointer (some ⟨q, 0, none⟩), .slice ao n c] w fun e w' => ∃ k, k ≤ n ∧ RunsTo R last X k ∧ (∃ nb' ρ', Wrote ρ ρ' w w' ∧ Dom ρ' nb' mb (some (nb' 1)) w' q (runP R last X k).1 (runP R last X k).2) ∧ ((k = n ∧ e = .returned (.tuple #[.int .i64 0, .int .i64 0])) ∨ (k < n ∧ canP (runP R last X k).1 (runP R last X k).2 (X k) = false ∧ e = .returned (.tuple #[.int .i64 4, .int .i64 k]))) := by
  have HLo : Hid (∀ b o, 0 < n → ao = some ⟨b, o, none⟩ → ρ b = none) := hide fun b o h0 e => hfree h0 _ e
  have HX := hide hX
  have HOk := hide hx
  have HR : Hid (∀ k, RunsTo R last X k → DocOk (runP R last X k).1 (runP R last X k).2 ∧ Fine (runP R last X k).1 ∧ (runP R last X k).2 ≤ last + k) := hide fun k hr => hr.ok hok hF
  have H0 := hide h
  clear hfree hX hx hok hF h
  go_enter Try.func28, Try.ntmps28
  go_wp2_with fail
  go_loopw [6, 7, 10] (fun _ _ i wr => ∃ k : Nat, k ≤ n ∧ i = .int .i64 k ∧ Hid (RunsTo R last X k) ∧ Hid (∃ nb' ρ', Wrote ρ ρ' w wr ∧ Dom ρ' nb' mb (some (nb' 1)) wr q (runP R last X k).1 (runP R last X k).2)) (fun _ _ i _ => n - (intOf i).toNat)
  case atStart => exact ⟨0, Nat.zero_le _, rfl, hide (RunsTo.zero _ _ _), hide ⟨nb, ρ, ⟨Touch.of_below (Below.refl _ _), fun _ _ => rfl, fun _ h => .inl h⟩, unhide H0⟩⟩
  case round =>
    obtain ⟨k, hk, rfl, hrun, hdom⟩ := hrel
    by_cases hlt : k < n
    · obtain ⟨nb1, ρ1, hw1, hd1⟩ := hdom.out
      obtain ⟨b, o, hao, hpat⟩ := HX.out (by omega)
      have hbl := hpat.lt
      have hρb := HLo.out b o (by omega) hao
      subst hao
      obtain ⟨hok1, hF1, hl1⟩ := HR.out k hrun.out
      obtain ⟨hxo, hxi⟩ := HOk.out k hlt
      have hcell : ∀ r, r < 8 → wr.cell? ⟨b, o + (k * 8 + r), none⟩ = some (patCell (X k) r) := fun r hr => by
        rw [World.cell?_of_block (hw1.1.block b hbl (by rw [hρb]; simp)), hpat.cell _ (by omega), patsCell_at _ _ _ hr]
      have hki : (k : Int) < (n : Int) := by omega
      have HD1 := hide hd1
      have HW1 := hide hw1
      have HDo : Hid (∀ w8, Below wr.heap.size wr w8 → Calls Try.prog 37 #[.pointer (some ⟨q, 0, none⟩), (X k).val] w8 fun e w' => e = .returned (.bool (canP (runP R last X k).1 (runP R last X k).2 (X k))) ∧ PPost ρ1 nb1 mb wr q (runP R last X k).1 (runP R last X k).2 (X k) (canP (runP R last X k).1 (runP R last X k).2 (X k)) w') := hide fun w8 hb8 => by
        refine (pdo_any ρ1 nb1 mb w8 q _ _ (hd1.below hb8) hok1 hF1 (by omega) (X k) hxo hxi).mono ?_
        rintro e w' ⟨b, rfl, hp⟩
        have e1 := hp.1
        subst e1
        exact ⟨rfl, hp.after hb8⟩
      have HNext : Hid (canP (runP R last X k).1 (runP R last X k).2 (X k) = true → ∀ w', PPost ρ1 nb1 mb wr q (runP R last X k).1 (runP R last X k).2 (X k) true w' → ∃ nb' ρ', Wrote ρ ρ' w w' ∧ Dom ρ' nb' mb (some (nb' 1)) w' q (runP R last X (k + 1)).1 (runP R last X (k + 1)).2) := hide fun _ w' hp => by
        obtain ⟨_, nb', ρ', h2, _, h4⟩ := hp
        rw [if_pos rfl, if_pos rfl] at h4
        exact ⟨nb', ρ', hw1.trans h2, h4⟩
      have HStop : Hid (∀ w', PPost ρ1 nb1 mb wr q (runP R last X k).1 (runP R last X k).2 (X k) false w' → ∃ nb' ρ', Wrote ρ ρ' w w' ∧ Dom ρ' nb' mb (some (nb' 1)) w' q (runP R last X k).1 (runP R last X k).2) := hide fun w' hp => by
        obtain ⟨_, nb', ρ', h2, _, h4⟩ := hp
        rw [if_neg (by simp), if_neg (by simp)] at h4
        exact ⟨nb', ρ', hw1.trans h2, h4⟩
      have HCan : Hid (∀ v, canP (runP R last X k).1 (runP R last X k).2 (X k) = v → canP (runP R last X k).1 (runP R last X k).2 (X k) = v) := hide fun _ e => e
      clear hd1 hw1 hok1 hF1 hxo hxi hpat hρb
      generalize hC : canP (runP R last X k).1 (runP R last X k).2 (X k) = C at HDo HNext HCan
      have HC := hide hC
      clear hC HCan
      generalize hPP : PPost ρ1 nb1 mb wr q (runP R last X k).1 (runP R last X k).2 (X k) = PP at *
      clear hPP
      obtain ⟨kd, id, pa, bf, ky, tg, nm, tx, hXk⟩ : ∃ kd id pa bf ky tg nm tx, X k = ⟨kd, id, pa, bf, ky, tg, nm, tx⟩ := ⟨_, _, _, _, _, _, _, _, rfl⟩
      rw [hXk] at hcell
      have HDo2 : Hid (∀ w8, Below wr.heap.size wr w8 → Calls Try.prog 37 #[.pointer (some ⟨q, 0, none⟩), .agg #[.int .i64 kd, .int .i64 id, .int .i64 pa, .int .i64 bf, .int .i64 ky, .string tg, .string nm, .string tx]] w8 fun e w' => e = .returned (.bool C) ∧ PP C w') := by rw [hXk] at HDo; exact HDo
      clear hXk HDo
      have c0 : wr.cell? ⟨b, o + k * 8, none⟩ = some (.int .i64 kd) := by have := hcell 0 (by decide); simpa [patCell, Nat.add_assoc] using this
      have c1 : wr.cell? ⟨b, o + k * 8 + 1, none⟩ = some (.int .i64 id) := by have := hcell 1 (by decide); simpa [patCell, Nat.add_assoc] using this
      have c2 : wr.cell? ⟨b, o + k * 8 + 2, none⟩ = some (.int .i64 pa) := by have := hcell 2 (by decide); simpa [patCell, Nat.add_assoc] using this
      have c3 : wr.cell? ⟨b, o + k * 8 + 3, none⟩ = some (.int .i64 bf) := by have := hcell 3 (by decide); simpa [patCell, Nat.add_assoc] using this
      have c4 : wr.cell? ⟨b, o + k * 8 + 4, none⟩ = some (.int .i64 ky) := by have := hcell 4 (by decide); simpa [patCell, Nat.add_assoc] using this
      have c5 : wr.cell? ⟨b, o + k * 8 + 5, none⟩ = some (.string tg) := by have := hcell 5 (by decide); simpa [patCell, Nat.add_assoc] using this
      have c6 : wr.cell? ⟨b, o + k * 8 + 6, none⟩ = some (.string nm) := by have := hcell 6 (by decide); simpa [patCell, Nat.add_assoc] using this
      have c7 : wr.cell? ⟨b, o + k * 8 + 7, none⟩ = some (.string tx) := by have := hcell 7 (by decide); simpa [patCell, Nat.add_assoc] using this
      clear hcell
      go_wp2_with fail
      refine (HDo2.out _ ((Below.refl _ _).alloc (Nat.le_refl _) _)).mono ?_
      rintro e w9 ⟨rfl, hp⟩
      have HP := hide hp
      clear hp
      cases C with
      | true =>
        have HN := hide (HNext.out rfl w9 HP.out)
        have HR1 := hide (hrun.out.succ HC.out)
        go_wp2_with fail
        go_roundw
        case rel => exact ⟨k + 1, by omega, by go_num, HR1, HN⟩
        case measure => simp [intOf]; omega
      | false =>
        have HS := hide (HStop.out w9 HP.out)
        go_wp2_with fail
        refine bodyPost_ret (results_tmp2 rfl _ _ _) rfl ?_
        exact ⟨k, hk, hrun.out, HS.out, .inr ⟨hlt, HC.out, rfl⟩⟩
    · have hkn : k = n := by omega
      subst hkn
      go_wp2_with fail
      refine bodyPost_ret (results_tmp2 rfl _ _ _) rfl ?_
      exact ⟨k, hk, hrun.out, hdom.out, .inl ⟨rfl, rfl⟩⟩
end Go.Proofs.Ytobgcaemnpkbmaa
namespace Go.Proofs.Ytobgcaemnpkbmaa
open Go.RowKit
theorem tellOf_getK (N : List TN) (i r : Nat) (hi : i < N.length) (hr : r < 5) : (tellOf N)[i * 5 + r]? = (N[i]).cells[r]? := by
  induction N generalizing i with
  | nil => exact absurd hi (Nat.not_lt_zero _)
  | cons a N ih =>
    have e : tellOf (a :: N) = a.cells ++ tellOf N := by unfold tellOf; rw [List.flatMap_cons]
    rw [e]
    cases i with
    | zero => rw [List.getElem?_append_left (by show 0 * 5 + r < 5; omega)]; simp
    | succ i =>
      rw [List.getElem?_append_right (by show 5 ≤ _; omega)]
      have e2 : (i + 1) * 5 + r - a.cells.length = i * 5 + r := by show _ - 5 = _; omega
      rw [e2, ih i (by simpa using hi)]
      rfl
def TN.nodK (n : TN) : Nod := ⟨n.d, n.tag, n.key, n.ao, n.an, n.ac, n.text, nmOf n.ats, vlOf n.ats⟩
def TN.zeroK : TN := ⟨0, ⟨#[]⟩, 0, ⟨#[]⟩, [], none, 0, 0⟩
def nodsK (N : List TN) (i : Nat) : Nod := (N.getD i TN.zeroK).nodK
theorem nodsK_lt {N : List TN} {i : Nat} (h : i < N.length) : nodsK N i = N[i].nodK := by
  unfold nodsK
  rw [List.getD_eq_getElem?_getD, List.getElem?_eq_getElem h]
  rfl
theorem TellAt.listK {B : Nat} {w : World} {ao : Option Addr} {n c : Nat} {N : List TN} (h : TellAt B w (.slice ao n c) N) (hn : n = N.length) (hl : N.length ≤ 1000000) (hfew : ∀ x, x ∈ N → x.ats.length ≤ 5) : ListAt w ao n (nodsK N) := by
  subst hn
  intro h0
  rcases h.row.2 with ⟨e, _⟩ | ⟨g, cap, cur, e, _, hg, _⟩
  · simp at e; omega
  · simp at e
    obtain ⟨rfl, rfl⟩ := e
    have hgl : g < w.heap.size := (Array.getElem?_eq_some_iff.1 hg).1
    refine ⟨g, 0, rfl, hgl, fun i hi => ?_⟩
    have hx := h.node _ (List.getElem_mem hi)
    have hf := hfew _ (List.getElem_mem hi)
    have cell : ∀ r, r < 5 → w.cell? ⟨g, 0 + i * 5 + r, none⟩ = N[i].cells[r]? := fun r hr => by
      rw [Nat.zero_add, h.row.cellAt (i * 5 + r) (by omega), tellOf_getK N i r hi hr]
    rw [nodsK_lt hi]
    refine ⟨cell 0 (by omega), cell 1 (by omega), cell 2 (by omega), cell 3 (by omega), cell 4 (by omega), ⟨?_, hx.tag, hx.text, attrs_of_row hx.row hx.an hx.size⟩⟩
    show N[i].an ≤ maxLen
    rw [hx.an]; unfold maxLen; omega
theorem tellK_few {R : List RN} {W : List (Nat × Int)} {N : List TN} (h : TellL R W N) (hR : ∀ n, n ∈ R → n.ats.length ≤ 5) : ∀ x, x ∈ N → x.ats.length ≤ 5 := fun x hx => by
  obtain ⟨i, hi, rfl⟩ := List.getElem_of_mem hx
  obtain ⟨hl, _, _, _, _, e⟩ := h.2 i (by rw [← h.1]; exact hi) hi
  rw [e]
  exact hR _ (List.getElem_mem hl)
theorem root_at {R : List RN} {last : Int} (h : DocOk R last) : ∃ r, ∃ hr : r < R.length, R[r].id = 1 ∧ atP R 1 = (r : Int) := by
  obtain ⟨n, hn, h1, _⟩ := h.root
  rcases at_two h.ids 1 with e | ⟨e, _⟩
  · exact e
  · exact absurd h1 (e n hn)
theorem walkK_few {R : List RN} {last : Int} (h : DocOk R last) {r : Nat} (hr : r < R.length) (d : Int) : (walkP R R.length r d).length ≤ R.length := by
  obtain ⟨rk, hU⟩ := h.up
  exact walk_length hU h.ids (fitP_all hU hr)
structure DomAt (ρ : Roles) (nb : Int → Nat) (mb q db : Nat) (w : World) (R : List RN) (last : Int) : Prop where
  blk : w.heap[db]? = some (.cells #[.pointer (some ⟨q, 0, none⟩)] 65 (0, 0))
  out : ρ db = none
  dom : Dom ρ nb mb (some (nb 1)) w q R last
  ok : DocOk R last
  fine : Fine R
def Apart (ρ ρ2 : Roles) : Prop := ∀ b, (ρ b).isSome = true → ρ2 b = none
theorem DomAt.below {ρ : Roles} {nb : Int → Nat} {mb q db : Nat} {w w' : World} {R : List RN} {last : Int} (h : DomAt ρ nb mb q db w R last) (hb : Below w.heap.size w w') : DomAt ρ nb mb q db w' R last :=
  ⟨(hb.block db (lt_of_blk h.blk)).trans h.blk, h.out, h.dom.below hb, h.ok, h.fine⟩
theorem DomAt.other {ρ ρ2 ρ3 : Roles} {nb : Int → Nat} {mb q db : Nat} {w w' : World} {R : List RN} {last : Int} (h : DomAt ρ nb mb q db w R last) (ha : Apart ρ ρ2) (hd : ρ2 db = none) (hw : Wrote ρ2 ρ3 w w') : DomAt ρ nb mb q db w' R last ∧ Apart ρ ρ3 ∧ ρ3 db = none := by
  have h3 : ∀ b, b < w.heap.size → ρ2 b = none → ρ3 b = none := fun b hb e => by
    cases e3 : ρ3 b with
    | none => rfl
    | some v =>
      rcases hw.2.2 b (by rw [e3]; rfl) with e4 | e4
      · rw [e] at e4; cases e4
      · omega
  refine ⟨⟨(hw.1.block db (lt_of_blk h.blk) (by rw [hd]; simp)).trans h.blk, h.out, h.dom.touch hw.1 fun b e => by rw [ha b e]; simp, h.ok, h.fine⟩, fun b e => h3 b (h.dom.low b e) (ha b e), h3 db (lt_of_blk h.blk) hd⟩
theorem dnew_ok (b o n c : Nat) (L : Nat → Nod) (w : World) (hn : n ≤ maxLen) (H : ListAt w (some ⟨b, o, none⟩) n L) (hz : (checkOut (mayB L) n).1 = 0) :
    Calls Try.prog 14 #[.slice (some ⟨b, o, none⟩) n c] w fun e w' => ∃ ρ nb mb q db, e = .returned (.tuple #[.pointer (some ⟨db, 0, none⟩), .int .i64 0, .int .i64 0]) ∧ w.heap.size ≤ db ∧ (∀ b, (ρ b).isSome = true → w.heap.size ≤ b) ∧ DomAt ρ nb mb q db w' (madeR L n) n ∧ Below w.heap.size w w' := by
  obtain ⟨e0, hn0, hn4, hmay⟩ := check_none hz
  have HC := treeCheck_any (some ⟨b, o, none⟩) n c L w hn H
  rw [e0] at HC
  obtain ⟨b', o', e, hN⟩ := H hn0
  cases e
  have hP := pnew_ok b o n c L w hn0 hn4 hN (NewOk.of hn0 hmay) (hide HC)
  refine (wrap_new (some ⟨b, o, none⟩) n c w (fun q w' => ∃ ρ nb mb, w.heap.size ≤ q ∧ (∀ b, (ρ b).isSome = true → w.heap.size ≤ b) ∧ Dom ρ nb mb (some (nb 1)) w' q (madeR L n) n ∧ Below w.heap.size w w') (hide (hP.mono ?_))).mono ?_
  · rintro e w' ⟨ρ, nb, mb, q, rfl, h1, h2, h3, h4⟩
    exact ⟨q, rfl, ρ, nb, mb, h1, h2, h3, h4⟩
  · rintro e w5 ⟨q, w4, ⟨ρ, nb, mb, h1, h2, h3, h4⟩, rfl, rfl⟩
    refine ⟨ρ, nb, mb, q, w4.heap.size, rfl, h4.size, h2, ⟨by show (w4.heap.push _)[w4.heap.size]? = _; simp, ?_, h3.below ((Below.refl _ _).alloc (Nat.le_refl _) _), made_ok hn0 hmay, made_fine hmay⟩, h4.alloc h4.size _⟩
    cases e : ρ w4.heap.size with
    | none => rfl
    | some v => have := h3.low w4.heap.size (by rw [e]; rfl); omega
theorem dnew_bad (ao : Option Addr) (n c : Nat) (L : Nat → Nod) (w : World) (hn : n ≤ maxLen) (H : ListAt w ao n L) (hz : (checkOut (mayB L) n).1 ≠ 0) :
    Calls Try.prog 14 #[.slice ao n c] w fun e w' => e = .returned (.tuple #[.pointer none, .int .i64 (checkOut (mayB L) n).1, .int .i64 (checkOut (mayB L) n).2]) ∧ Below w.heap.size w w' := by
  have HC := treeCheck_any ao n c L w hn H
  have hne : ((checkOut (mayB L) n).1 != 0) = true := by simpa using hz
  exact wrap_bad ao n c w _ _ hne (hide (pnew_bad ao n c w _ _ hne (hide HC)))
theorem dapply (ρ : Roles) (nb : Int → Nat) (mb q db : Nat) (w : World) (R : List RN) (last : Int) (h : DomAt ρ nb mb q db w R last) (ao : Option Addr) (n c : Nat) (X : Nat → Pat) (hl : last + n ≤ 4611686018427387904) (hn : n ≤ 2199023255552) (hX : PListAt w ao n X) (hfree : 0 < n → ∀ a, ao = some a → ρ a.block = none) (hx : ∀ i, i < n → (X i).Ok ∧ (X i).Ints) :
    Calls Try.prog 15 #[.pointer (some ⟨db, 0, none⟩), .slice ao n c] w fun e w' => ∃ x y, e = .returned (.tuple #[.int .i64 x, .int .i64 y]) ∧ ∃ k, k ≤ n ∧ RunsTo R last X k ∧ (∃ nb' ρ', Wrote ρ ρ' w w' ∧ DomAt ρ' nb' mb q db w' (runP R last X k).1 (runP R last X k).2) ∧ ((k = n ∧ x = 0 ∧ y = 0) ∨ (k < n ∧ canP (runP R last X k).1 (runP R last X k).2 (X k) = false ∧ x = 4 ∧ y = k)) := by
  refine wrap_apply db q w ao n c _ (cell_of_blk h.blk 0 _ rfl) (hide ((apply_big ρ nb mb w q R last h.dom h.ok h.fine ao n c X hl hn hX hfree hx).mono ?_))
  rintro e w' ⟨k, hk, hr, ⟨nb', ρ', hw, hd⟩, hout⟩
  obtain ⟨o1, o2, _⟩ := hr.ok h.ok h.fine
  have hdb : ρ' db = none := by
    cases e3 : ρ' db with
    | none => rfl
    | some v =>
      rcases hw.2.2 db (by rw [e3]; rfl) with e4 | e4
      · rw [h.out] at e4; cases e4
      · have := lt_of_blk h.blk; omega
  have hD : DomAt ρ' nb' mb q db w' (runP R last X k).1 (runP R last X k).2 := ⟨(hw.1.block db (lt_of_blk h.blk) (by rw [h.out]; simp)).trans h.blk, hdb, hd, o1, o2⟩
  rcases hout with ⟨h1, h2⟩ | ⟨h1, h2, h3⟩
  · exact ⟨0, 0, h2, k, hk, hr, ⟨nb', ρ', hw, hD⟩, .inl ⟨h1, rfl, rfl⟩⟩
  · exact ⟨4, k, h3, k, hk, hr, ⟨nb', ρ', hw, hD⟩, .inr ⟨h1, h2, rfl, rfl⟩⟩
theorem dtree (ρ : Roles) (nb : Int → Nat) (mb q db : Nat) (w : World) (R : List RN) (last : Int) (h : DomAt ρ nb mb q db w R last) (r : Nat) (hr : r < R.length) (hr1 : R[r].id = 1) :
    Calls Try.prog 18 #[.pointer (some ⟨db, 0, none⟩)] w fun e w' => ∃ v, e = .returned v ∧ ∃ N, TellAt w.heap.size w' v N ∧ TellL R (walkP R R.length r 0) N ∧ Below w.heap.size w w' :=
  wrap_tree db q w _ (cell_of_blk h.blk 0 _ rfl) (hide ((ptree_any ρ nb mb w q R last h.dom h.ok r hr hr1).mono fun _ _ ⟨v, N, h1, h2, h3, h4⟩ => ⟨v, h1, N, h2, h3, h4⟩))
theorem dids (ρ : Roles) (nb : Int → Nat) (mb q db : Nat) (w : World) (R : List RN) (last : Int) (h : DomAt ρ nb mb q db w R last) (r : Nat) (hr : r < R.length) (hr1 : R[r].id = 1) :
    Calls Try.prog 16 #[.pointer (some ⟨db, 0, none⟩)] w fun e w' => ∃ v, e = .returned v ∧ w'.ownsRow w.heap.size 3 1 v (widP R R.length r).length (ints (widP R R.length r)) ∧ Below w.heap.size w w' :=
  wrap_ids db q w _ (cell_of_blk h.blk 0 _ rfl) (hide (pids_any ρ nb mb w q R last h.dom h.ok r hr hr1))
theorem dloose (ρ : Roles) (nb : Int → Nat) (mb q db : Nat) (w : World) (R : List RN) (last : Int) (h : DomAt ρ nb mb q db w R last) (r : Nat) (hr : r < R.length) (hr1 : R[r].id = 1) :
    Calls Try.prog 19 #[.pointer (some ⟨db, 0, none⟩)] w fun e w' => ∃ v, e = .returned v ∧ v = .int .i64 ((R.length : Int) - ((widP R R.length r).length : Int)) ∧ Below w.heap.size w w' :=
  wrap_loose db q w _ (cell_of_blk h.blk 0 _ rfl) (hide ((ploose_any ρ nb mb w q R last h.dom h.ok r hr hr1).mono fun _ _ ⟨h1, h2⟩ => ⟨_, h1, rfl, h2⟩))
theorem ddiff (ρ : Roles) (nb : Int → Nat) (mb q db : Nat) (w : World) (R : List RN) (last : Int) (h : DomAt ρ nb mb q db w R last) (hK : Keys R) (hl1 : last + 400 ≤ 4611686018427387904) (ao : Option Addr) (n c : Nat) (L : Nat → Nod) (hn : n ≤ maxLen) (hc : n ≤ c) (hL : ListAt w ao n L) (hk : ∀ i, i < n → I64 (L i).k) :
    Calls Try.prog 20 #[.pointer (some ⟨db, 0, none⟩), .slice ao n c] w fun e w' => ∃ v x y, e = .returned (.tuple #[v, .int .i64 x, .int .i64 y]) ∧ x = (diffE R L n).1 ∧ y = (diffE R L n).2 ∧ w'.ownsRow w.heap.size 43 8 v (if (diffE R L n).1 = 0 then diffP R last L n else []).length (patsL (if (diffE R L n).1 = 0 then diffP R last L n else [])) ∧ Below w.heap.size w w' :=
  wrap_diff db q w ao n c _ (cell_of_blk h.blk 0 _ rfl) (hide ((pdiff_any ρ nb mb w q R last h.dom h.ok h.fine hK hl1 ao n c L hn hc hL hk).mono fun _ _ ⟨v, h1, h2, h3⟩ => ⟨v, _, _, h1, rfl, rfl, h2, h3⟩))
end Go.Proofs.Ytobgcaemnpkbmaa
