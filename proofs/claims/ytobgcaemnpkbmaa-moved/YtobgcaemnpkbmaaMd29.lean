/- Fk -/
import Derived.Test.YtobgcaemnpkbmaaMd28
import Derived.ScopeJumps
import Derived.WalkMore
namespace Go.Proofs.Ytobgcaemnpkbmaa
open Go.RowKit
structure LrAt (v : Nat → Int) (n : Nat) (w : World) (i : Nat) (wr : World) (ev av : Value) : Prop where
  ends : wr.ownsRow w.heap.size 3 1 ev ((rowsTo v i).length + 1) (ints (endsP (rowsTo v i)))
  ahd : ∃ ah : List Int, wr.ownsRow w.heap.size 3 1 av n (ints ah) ∧ RowsOk (fun x => ah.getD x 0) (rowsTo v i) i
  apart : ∀ b, ev.ownBlock = some b → av.ownBlock ≠ some b
  below : Below w.heap.size w wr
theorem LrAt.drewN {v : Nat → Int} {n : Nat} {w : World} {i : Nat} {wr : World} {ev av : Value} (h : LrAt v n w i wr ev av) (m : Nat) : LrAt v n w i (wr.drewN m) ev av := by
  obtain ⟨ah, h1, h2⟩ := h.ahd
  exact ⟨h.ends, ⟨ah, h1, h2⟩, h.apart, drewN_of h.below m⟩
theorem chain_next {ah : Nat → Int} : ∀ {c : List Nat} {k : Nat}, backOk ah c → (hk : k < c.length) → ah c[k] = chAt c (k + 1) := by
  intro c
  induction c with
  | nil => intro k _ hk; exact absurd hk (Nat.not_lt_zero _)
  | cons x r ih =>
    intro k hb hk
    cases k with
    | zero =>
      rw [List.getElem_cons_zero, hb.1]
      cases r with
      | nil => rfl
      | cons y r => rfl
    | succ k =>
      rw [List.getElem_cons_succ, ih hb.2 (by simpa using hk)]
      unfold chAt
      simp
theorem LrAt.next {v : Nat → Int} {n : Nat} {w wr : World} {i g h cap hcap p : Nat} {ev : Value} (hi : i < n) (hL : LrAt v n w i wr ev (.slice (some ⟨h, 0, none⟩) n hcap)) {w1 : World} {m : Nat} {xs : List Value} (hp : endAt v (rowsTo v i) i = p)
    (ho : w1.ownsRow w.heap.size 3 1 (.slice (some ⟨g, 0, none⟩) m cap) m xs) (hxs : xs.set (p + 1) (.int .i64 i) = ints (endsP (rowsTo v (i + 1)))) (hm : m = (rowsTo v (i + 1)).length + 1) (hgh : g ≠ h) (hb : Below w.heap.size w w1) (hh : w1.heap[h]? = wr.heap[h]?) :
    LrAt v n w (i + 1) ((w1.setCell ⟨g, p + 1, none⟩ (.int .i64 i)).setCell ⟨h, i, none⟩ (.int .i64 (aheadP (rowsTo v i) p))) (.slice (some ⟨g, 0, none⟩) m cap) (.slice (some ⟨h, 0, none⟩) n hcap) := by
  obtain ⟨ah, h1, h2⟩ := hL.ahd
  have hal : ah.length = n := by have := h1.1; rw [ints_length] at this; omega
  have hgB := (ho.lt g rfl).1
  have hhB := (h1.lt h rfl).1
  have e1 := (ho.stored (p + 1) (.int .i64 i)).1
  rw [hxs] at e1
  have h1' : w1.ownsRow w.heap.size 3 1 (.slice (some ⟨h, 0, none⟩) n hcap) n (ints ah) := own_heap h1 fun b e => by
    have : h = b := by simpa [Value.ownBlock] using e
    subst this; exact hh
  have e2 : (w1.setCell ⟨g, p + 1, none⟩ (.int .i64 i)).ownsRow w.heap.size 3 1 (.slice (some ⟨h, 0, none⟩) n hcap) n (ints ah) := own_heap h1' fun b e => Below.heap_setCell _ _ _ _ (by
    have : h = b := by simpa [Value.ownBlock] using e
    show b ≠ g; omega)
  have e3 := (e2.stored i (.int .i64 (aheadP (rowsTo v i) p))).1
  rw [ints_set] at e3
  subst hm
  refine ⟨own_heap e1 fun b e => Below.heap_setCell _ _ _ _ (by
    have : g = b := by simpa [Value.ownBlock] using e
    show b ≠ h; omega), ⟨_, e3, h2.step (v := v) (fun x hx => ?_) ?_⟩, fun b e e2 => ?_, (hb.setCell hgB _).setCell hhB _⟩
  · rw [List.getD_eq_getElem?_getD, List.getD_eq_getElem?_getD, List.getElem?_set, if_neg (by omega)]
  · rw [List.getD_eq_getElem?_getD, List.getElem?_set, if_pos rfl, if_pos (by omega), hp]
    rfl
  · have h3 : g = b := by simpa [Value.ownBlock] using e
    have h4 : h = b := by simpa [Value.ownBlock] using e2
    omega
theorem below_touch0 {w wr w9 : World} (h : Below w.heap.size w wr) (ht : Touch (fun b => w.heap.size ≤ b) wr w9) : Below w.heap.size w w9 :=
  ⟨ht.os.trans h.os, ht.tape.trans h.tape, ht.output.trans h.output, Nat.le_trans h.size ht.size, fun b hb => (ht.block b (Nat.lt_of_lt_of_le hb h.size) (by omega)).trans (h.block b hb)⟩
theorem wp_scope_from {P : Program} {a : Act} {w : World} {Q : Exit → Act → World → Prop} {c X : Code} (l : Nat) (J : Act → World → Prop) (μ : Act → World → Nat) (hf : findLabel c l = some (Code.skip.seq X))
    (pass : ∀ a w, J a w → X.wp P (Exit.jump l (fun a' w' => J a' w' ∧ μ a' w' < μ a w) Q) a w) (first : (∀ a w, J a w → X.wp P (Exit.jump l J Q) a w) → c.wp P (Exit.jump l J Q) a w) : (Code.scope c).wp P Q a w := by
  refine wp_scope_jumps l J μ hf (first fun a w h => wp_mono (pass a w h) ?_) fun a w h => wp_seq (wp_skip (pass a w h))
  intro e a' w' he
  cases e with
  | goto l' => exact ⟨he.1, he.2.1⟩
  | normal => exact he
  | exit id => exact he
  | ret => exact he
  | panic ch => exact he
  | outgrown => exact he
theorem ints_rep (n : Nat) : (madeCells #[.int .i64 0] n).toList = ints (List.replicate n 0) := by
  unfold madeCells ints
  apply List.ext_getElem
  · simp
  · intro i h1 h2
    simp [Nat.mod_one]
set_option maxHeartbeats 8000000 in
set_option maxRecDepth 100000 in
theorem longestRow_v (B : Nat) (ao : Option Addr) (n c : Nat) (l : List Int) (v : Nat → Int) (hv : ∀ j, (hj : j < l.length) → l[j] = v j) (w : World) (hrow : w.ownsRow B 3 1 (.slice ao n c) n (ints l)) (hn : n ≤ 100000) :
    Calls Try.prog 79 #[.slice ao n c] w fun e w' => ∃ q, e = .returned q ∧ w'.ownsRow w.heap.size 3 1 q (rowP v n).length (ints (rowP v n)) ∧ Below w.heap.size w w' := by
  obtain ⟨i0, hi, hz0, hz1, hz2⟩ := info_parts intInfo
  have hmk : ∀ u : World, (Instr.makeSlice 44 (.int .i64 n) (.int .i64 n)).run Try.prog u = .ok (.slice (some ⟨u.heap.size, 0, none⟩) n n) (u.alloc (.cells (madeCells #[.int .i64 0] n) 3)) := fun u => by
    have h := run_make (P := Try.prog) u 44 3 i0 (.int .i64 0) Try.underlying44 hi hz0 .i64 .i64 (n : Int) (n : Int) (by omega) (Int.le_refl _) (by rw [hz2]; omega) (by omega)
    simpa [hz1, Value.cells] using h
  have HRow : Hid (∀ (wr : World) j, Below w.heap.size w wr → j < n → ∃ g, ao = some ⟨g, 0, none⟩ ∧ g < w.heap.size ∧ wr.cell? ⟨g, j, none⟩ = some (.int .i64 (v j))) := hide fun wr j hb hj => by
    obtain ⟨g, hjl, e, hc, _, hg⟩ := ints_at hrow hj
    refine ⟨g, e, hg, (hb.cell (p := ⟨g, j, none⟩) hg).trans ?_⟩
    rw [hc, hv j hjl]
  clear hrow hv
  go_enter Try.func79, Try.ntmps79
  go_wp2_with fail
  refine wp_scope_from 0 (fun a' w' => ∃ (i : Nat) (ev av u1 u2 u6 u7 u8 u9 u10 u11 u12 u13 u14 u15 u16 u17 u18 u19 u20 u21 u22 u23 u24 u25 u26 u27 u28 u29 u30 u31 u32 u33 u34 u35 u36 u37 u38 u39 u40 u41 u42 u43 u44 u45 u46 u47 u48 u49 u50 u51 u52 u53 u54 u55 u56 u57 u58 u59 u60 u61 u62 u63 u64 u65 u66 u67 u68 u69 u70 u71 u72 u73 : Value), a' = { tmps := #[.slice ao n c, u1, u2, ev, av, .int .i64 i, u6, u7, u8, u9, u10, u11, u12, u13, u14, u15, u16, u17, u18, u19, u20, u21, u22, u23, u24, u25, u26, u27, u28, u29, u30, u31, u32, u33, u34, u35, u36, u37, u38, u39, u40, u41, u42, u43, u44, u45, u46, u47, u48, u49, u50, u51, u52, u53, u54, u55, u56, u57, u58, u59, u60, u61, u62, u63, u64, u65, u66, u67, u68, u69, u70, u71, u72, u73], defers := [] } ∧ i ≤ n ∧ Hid (LrAt v n w i w' ev av)) (fun a' _ => n - (intOf (a'.tmps.getD 5 undef)).toNat) rfl ?pass ?first
  case pass =>
    rintro a' wr ⟨i, ev, av, u1, u2, u6, u7, u8, u9, u10, u11, u12, u13, u14, u15, u16, u17, u18, u19, u20, u21, u22, u23, u24, u25, u26, u27, u28, u29, u30, u31, u32, u33, u34, u35, u36, u37, u38, u39, u40, u41, u42, u43, u44, u45, u46, u47, u48, u49, u50, u51, u52, u53, u54, u55, u56, u57, u58, u59, u60, u61, u62, u63, u64, u65, u66, u67, u68, u69, u70, u71, u72, u73, rfl, hin, hL⟩
    obtain ⟨ea, ec, rfl⟩ := own_shape hL.out.ends
    obtain ⟨ha, hc, hav⟩ : ∃ ha hc, av = .slice ha n hc := by
      obtain ⟨ah, h1, _⟩ := hL.out.ahd
      exact own_shape h1
    subst hav
    have hbr := hL.out.below
    have hC : (rowsTo v i).length ≤ i := by obtain ⟨ah, _, h2⟩ := hL.out.ahd; exact h2.few
    obtain ⟨eg, heg⟩ : ∃ eg, ea = some ⟨eg, 0, none⟩ := by
      rcases hL.out.ends.2 with ⟨_, e⟩ | ⟨g, cap, cur, e, _⟩
      · omega
      · simp at e; exact ⟨g, e.1⟩
    subst heg
    by_cases hlt : i < n
    · obtain ⟨hg, hha⟩ : ∃ hg, ha = some ⟨hg, 0, none⟩ := by
        obtain ⟨ah, h1, _⟩ := hL.out.ahd
        rcases h1.2 with ⟨_, e⟩ | ⟨g, cap, cur, e, _⟩
        · omega
        · simp at e; exact ⟨g, e.1⟩
      subst hha
      have hii : (i : Int) < (n : Int) := by omega
      clear hbr
      go_wp2_with fail
      go_loopw [3, 5, 6] (fun e i' len ws => ∃ p : Nat, p ≤ (rowsTo v i).length ∧ e = .slice (some ⟨eg, 0, none⟩) ((rowsTo v i).length + 1) ec ∧ i' = .int .i64 i ∧ len = .int .i64 ((p : Int) + 1) ∧ Hid (LrAt v n w i ws (.slice (some ⟨eg, 0, none⟩) ((rowsTo v i).length + 1) ec) (.slice (some ⟨hg, 0, none⟩) n hc)) ∧ Hid (∀ q, (hq : q < (rowsTo v i).length) → q < p → v (headN (rowsTo v i)[q]) < v i)) (fun _ _ len _ => (rowsTo v i).length + 1 - (intOf len).toNat)
      case atStart => exact ⟨0, Nat.zero_le _, rfl, rfl, by go_num, hL, hide fun q _ h => absurd h (Nat.not_lt_zero _)⟩
      case round =>
        clear hL
        obtain ⟨p, hp, rfl, rfl, rfl, hL, hall⟩ := hrel
        have hbr := hL.out.below
        have hcE : ∀ q, (hq : q < (rowsTo v i).length) → wr.cell? ⟨eg, q + 1, none⟩ = some (.int .i64 (headN (rowsTo v i)[q] : Int)) := fun q hq => (hL.out.ends.cellAt (q + 1) (by omega)).trans (endsP_get _ q hq)
        have hcA : ∀ q, q ≤ (rowsTo v i).length → wr.cell? ⟨eg, q, none⟩ = some (.int .i64 (aheadP (rowsTo v i) q)) := fun q hq => (hL.out.ends.cellAt q (by omega)).trans (endsP_ahead _ q hq)
        have hfE : ∀ q, wr.frozen? ⟨eg, q, none⟩ = false := fun q => hL.out.ends.frozenAt q
        have hhd : ∀ q, (hq : q < (rowsTo v i).length) → headN (rowsTo v i)[q] < i := fun q hq => by
          obtain ⟨ah, _, h2⟩ := hL.out.ahd
          have hm : (rowsTo v i)[q] ∈ rowsTo v i := List.getElem_mem hq
          cases hx : (rowsTo v i)[q] with
          | nil => exact absurd hx (h2.ne _ hm)
          | cons y r => rw [hx] at hm; exact h2.lt _ hm y (by simp)
        obtain ⟨g, hg0, hgl, ci⟩ := HRow.out wr i hbr hlt
        subst hg0
        obtain ⟨ah, ca, fa⟩ : ∃ x, wr.cell? ⟨hg, i, none⟩ = some x ∧ wr.frozen? ⟨hg, i, none⟩ = false := by
          obtain ⟨ah, h1, _⟩ := hL.out.ahd
          have hal : ah.length = n := by have := h1.1; rw [ints_length] at this; omega
          exact ⟨_, (h1.cellAt i (by omega)).trans (List.getElem?_eq_getElem (by rw [ints_length]; omega)), h1.frozenAt i⟩
        have HcE := hide hcE
        have HcA := hide hcA
        have Hhd := hide hhd
        have Hbr := hide hbr
        have hne : eg ≠ hg := fun e => hL.out.apart eg rfl (by rw [e]; rfl)
        have hgw : hg < wr.heap.size := by obtain ⟨ah, h1, _⟩ := hL.out.ahd; exact (h1.lt hg rfl).2
        clear hcE hcA hhd hbr
        by_cases hpe : p = (rowsTo v i).length
        · have HP : Hid (endAt v (rowsTo v i) i = (rowsTo v i).length) := hide (endAt_is (Nat.le_refl _) (fun q hq h => hall.out q hq (by omega)) (fun h => absurd h (Nat.lt_irrefl _)))
          subst hpe
          have hlen : (ints (endsP (rowsTo v i))).length = (rowsTo v i).length + 1 := by rw [ints_length, endsP_length]
          have HO : Hid (∀ O, (wr.alloc O).ownsRow w.heap.size 3 1 (.slice (some ⟨eg, 0, none⟩) ((rowsTo v i).length + 1) ec) ((rowsTo v i).length + 1) (ints (endsP (rowsTo v i)))) := hide fun O => hL.out.ends.alloc O
          have hws := Hbr.out.size
          go_wp2_with ((at_builtin; refine wpList_app _ rfl (.tmp 22) (.tmp 24) 44 rfl w.heap.size 3 i0 (.int .i64 0) 1 8 Try.underlying44 hi hz0 hz1 hz2 rfl (.slice (some ⟨eg, 0, none⟩) ((rowsTo v i).length + 1) ec) _ _ rfl (HO.out _) (some ⟨wr.heap.size, 0, none⟩) 1 1 [.int .i64 i] rfl (by simp) rfl (cells_new _ _ _) (by simp [Value.oneCell']) (by omega) (by omega) (by simp; omega) ?_; intro v5 w5 ho5 hg5 _))
          obtain ⟨a5, c5, rfl⟩ := own_shape ho5.out
          obtain ⟨g5, hg5'⟩ : ∃ g5, a5 = some ⟨g5, 0, none⟩ := by
            rcases ho5.out.2 with ⟨_, e⟩ | ⟨g5, cap, cur, e, _⟩
            · omega
            · simp at e; exact ⟨g5, e.1⟩
          subst hg5'
          have h5n : g5 ≠ hg := fun e => by
            rcases hg5.out with ⟨e2, _⟩ | ⟨e2, _⟩
            · have : g5 = eg := by simpa [Value.ownBlock] using e2
              omega
            · have : g5 = wr.heap.size + 1 := by simpa [Value.ownBlock] using e2
              omega
          have hs5 : wr.heap.size ≤ w5.heap.size := by have := hg5.out.size; simp at this; omega
          have hkeep : ∀ b, b < wr.heap.size → b ≠ eg → w5.heap[b]? = wr.heap[b]? := fun b hb hn => (hg5.out.by.block b (by simp; omega) (fun e => hn (by simpa [Value.ownBlock] using e))).trans (Below.heap_alloc _ _ _ hb)
          have hgr : g < wr.heap.size := Nat.lt_of_lt_of_le hgl hws
          have hb5 : Below w.heap.size w w5 := (Hbr.out.alloc hws _).grown hg5.out.by (by simp; omega) (fun b e => (hL.out.ends.lt b e).1)
          have e0 : (ints (endsP (rowsTo v i)) ++ [Value.int .i64 i])[(rowsTo v i).length + 1]? = some (.int .i64 i) := by rw [List.getElem?_append_right (by omega), hlen]; simp
          have e1 : (ints (endsP (rowsTo v i)) ++ [Value.int .i64 i])[(rowsTo v i).length]? = some (.int .i64 (aheadP (rowsTo v i) (rowsTo v i).length)) := by rw [List.getElem?_append_left (by omega)]; exact endsP_ahead _ _ (Nat.le_refl _)
          have k0 := (ho5.out.cellAt ((rowsTo v i).length + 1) (by omega)).trans e0
          have k1 := (ho5.out.cellAt (rowsTo v i).length (by omega)).trans e1
          have kf := ho5.out.frozenAt ((rowsTo v i).length + 1)
          have k2 : w5.cell? ⟨g, i, none⟩ = some (.int .i64 (v i)) := (hb5.cell (p := ⟨g, i, none⟩) hgl).trans ((Hbr.out.cell (p := ⟨g, i, none⟩) hgl).symm.trans ci)
          have k3 : w5.cell? ⟨hg, i, none⟩ = some ah := (World.cell?_of_block (hkeep hg hgw (by omega))).trans ca
          have k4 : w5.frozen? ⟨hg, i, none⟩ = false := (frozen_heap (hkeep hg hgw (by omega)) i).trans fa
          have HNx : Hid (∀ m : Nat, LrAt v n w (i + 1) (((w5.drewN m).setCell ⟨g5, (rowsTo v i).length + 1, none⟩ (.int .i64 i)).setCell ⟨hg, i, none⟩ (.int .i64 (aheadP (rowsTo v i) (rowsTo v i).length))) (.slice (some ⟨g5, 0, none⟩) ((rowsTo v i).length + 1 + 1) c5) (.slice (some ⟨hg, 0, none⟩) n hc)) := hide fun m => by
            have he := endsP_app HP.out
            refine LrAt.next hlt hL.out HP.out (w1 := w5.drewN m) ho5.out ?_ ?_ h5n (drewN_of hb5 m) (hkeep hg hgw (by omega))
            · have h9 : (ints (endsP (rowsTo v i)) ++ [Value.int .i64 i]).set ((rowsTo v i).length + 1) (.int .i64 i) = ints (endsP (rowsTo v i)) ++ [Value.int .i64 i] := by rw [List.set_append_right _ _ (by omega), hlen]; simp
              rw [h9, ← ints_app, he]
              rfl
            · have := congrArg List.length he
              rw [List.length_append, endsP_length, endsP_length] at this
              simp at this
              show (rowsTo v i).length + 1 + 1 = (rowStep v (rowsTo v i) i).length + 1
              omega
          clear ho5 hg5 hkeep hb5 e0 e1 HO hall HP
          go_wp2_with fail
          go_big_quiet (fail)
          go_wp2_with fail
          go_step3
          simp only [Exit.inBlock, Exit.then]
          refine ⟨rfl, ⟨i + 1, _, _, _, _, _, _, _, _, _, _, _, _, _, _, _, _, _, _, _, _, _, _, _, _, _, _, _, _, _, _, _, _, _, _, _, _, _, _, _, _, _, _, _, _, _, _, _, _, _, _, _, _, _, _, _, _, _, _, _, _, _, _, _, _, _, _, _, _, _, _, _, _, rfl, by omega, hide (HNx.out _)⟩, ?_⟩
          simp [intOf]
          omega
        · have hpl : p < (rowsTo v i).length := by omega
          have cp := HcE.out p hpl
          have hxi := Hhd.out p hpl
          obtain ⟨g', hg', hgl', cx⟩ := HRow.out wr (headN (rowsTo v i)[p]) Hbr.out (by omega)
          simp at hg'
          subst hg'
          have kA := HcA.out p (by omega)
          have hws := Hbr.out.size
          have hne1 : ((p : Int) + 1 == ((rowsTo v i).length : Int) + 1) = false := by rw [beq_eq_false_iff_ne]; omega
          by_cases hvv : v (headN (rowsTo v i)[p]) < v i
          · have HA : Hid (∀ q, (hq : q < (rowsTo v i).length) → q < p + 1 → v (headN (rowsTo v i)[q]) < v i) := hide fun q hq h => by
              by_cases e : q = p
              · subst e; exact hvv
              · exact hall.out q hq (by omega)
            clear hall HcE HcA Hhd
            go_wp2_with fail
            go_big_quiet (fail)
            go_wp2_with fail
            go_roundw
            case rel => exact ⟨p + 1, by omega, rfl, rfl, by go_num, hide (LrAt.drewN hL.out _), HA⟩
            case measure => simp [intOf]; omega
          · have HP : Hid (endAt v (rowsTo v i) i = p) := hide (endAt_is hp (fun q hq h => hall.out q hq h) (fun _ => hvv))
            have hvv' : ¬ v (headN (rowsTo v i)[p]) < v i := hvv
            have kf := hfE (p + 1)
            have HNx : Hid (∀ m : Nat, LrAt v n w (i + 1) (((wr.drewN m).setCell ⟨eg, p + 1, none⟩ (.int .i64 i)).setCell ⟨hg, i, none⟩ (.int .i64 (aheadP (rowsTo v i) p))) (.slice (some ⟨eg, 0, none⟩) ((rowsTo v i).length + 1) ec) (.slice (some ⟨hg, 0, none⟩) n hc)) := hide fun m => by
              have he := endsP_set (v := v) (C := rowsTo v i) (i := i) (by rw [HP.out]; exact hpl)
              rw [HP.out] at he
              refine LrAt.next hlt hL.out HP.out (w1 := wr.drewN m) hL.out.ends ?_ ?_ hne (drewN_of Hbr.out m) rfl
              · rw [ints_set, he]
                rfl
              · have := congrArg List.length he
                rw [List.length_set, endsP_length, endsP_length] at this
                show (rowsTo v i).length + 1 = (rowStep v (rowsTo v i) i).length + 1
                omega
            clear hall HcE HcA Hhd HP
            go_wp2_with fail
            go_big_quiet (fail)
            go_wp2_with fail
            go_step3
            simp only [Exit.inBlock, Exit.then]
            refine ⟨rfl, ⟨i + 1, _, _, _, _, _, _, _, _, _, _, _, _, _, _, _, _, _, _, _, _, _, _, _, _, _, _, _, _, _, _, _, _, _, _, _, _, _, _, _, _, _, _, _, _, _, _, _, _, _, _, _, _, _, _, _, _, _, _, _, _, _, _, _, _, _, _, _, _, _, _, _, _, rfl, by omega, hide (HNx.out _)⟩, ?_⟩
            simp [intOf]
            omega
    · have hie : i = n := by omega
      subst hie
      have hii : ¬ (i : Int) < (i : Int) := by omega
      generalize hCC : rowsTo v i = C at *
      have HCC := hide hCC
      clear hCC
      have cE : wr.cell? ⟨eg, C.length, none⟩ = some (.int .i64 (chAt (C.getLastD []) 0)) := by
        have h1 := hL.out.ends
        rw [HCC.out] at h1
        rw [(h1.cellAt C.length (by omega)).trans (endsP_ahead C C.length (Nat.le_refl _))]
        congr 2
        unfold aheadP
        obtain ⟨ah, _, h2⟩ := hL.out.ahd
        rw [HCC.out] at h2
        by_cases h0 : C.length = 0
        · have : C = [] := List.eq_nil_of_length_eq_zero h0
          subst this
          rfl
        · rw [if_neg h0, List.getD_eq_getElem?_getD, List.getElem?_eq_getElem (by omega), List.getLastD_eq_getLast?, List.getLast?_eq_getElem?, List.getElem?_eq_getElem (by omega)]
          simp only [Option.getD_some]
          have hm : C[C.length - 1] ∈ C := List.getElem_mem _
          cases hx : C[C.length - 1] with
          | nil => exact absurd hx (h2.ne _ hm)
          | cons y r => rfl
      have HAh : Hid (∃ ah : List Int, wr.ownsRow w.heap.size 3 1 (.slice ha i hc) i (ints ah) ∧ backOk (fun x => ah.getD x 0) (C.getLastD []) ∧ (∀ x, x ∈ C.getLastD [] → x < i) ∧ (C.getLastD []).Pairwise fun x y => y < x) := hide (by
        obtain ⟨ah, h1, h2⟩ := hL.out.ahd
        rw [HCC.out] at h2
        refine ⟨ah, h1, ?_, ?_, ?_⟩
        · cases hx : C.getLast? with
          | none => rw [List.getLastD_eq_getLast?, hx]; trivial
          | some c0 => rw [List.getLastD_eq_getLast?, hx]; exact h2.back _ (List.mem_of_getLast? hx)
        · cases hx : C.getLast? with
          | none => rw [List.getLastD_eq_getLast?, hx]; intro x hx; simp at hx
          | some c0 => rw [List.getLastD_eq_getLast?, hx]; exact h2.lt _ (List.mem_of_getLast? hx)
        · cases hx : C.getLast? with
          | none => rw [List.getLastD_eq_getLast?, hx]; simp
          | some c0 => rw [List.getLastD_eq_getLast?, hx]; exact h2.dec _ (List.mem_of_getLast? hx))
      have HRP : Hid (rowP v i = ((C.getLastD []).map v).reverse) := hide (by unfold rowP; rw [HCC.out])
      have Hbr := hide hbr
      clear hL hbr
      have hCl : C.length ≤ 100000 := by omega
      generalize C.getLastD [] = ch at *
      have hchl : ch.length ≤ ch.length := Nat.le_refl _
      go_wp2_with fail
      go_loopw [3, 5, 6] (fun e i' _ ws => e = .slice (some ⟨eg, 0, none⟩) (C.length + 1) ec ∧ i' = .int .i64 i ∧ ws = wr) (fun _ _ _ _ => 1)
      case atStart => exact ⟨rfl, rfl, rfl⟩
      case round =>
        obtain ⟨rfl, rfl, rfl⟩ := hrel
        go_wp2_with fail
        go_loopw [5, 7] (fun iV q ws => ∃ (k : Nat) (q' : Value), k ≤ ch.length ∧ iV = .int .i64 (chAt ch k) ∧ q' = q ∧ Hid (ws.ownsRow w.heap.size 3 1 q' k (ints ((ch.take k).map v))) ∧ Hid (∃ ah : List Int, ws.ownsRow w.heap.size 3 1 (.slice ha i hc) i (ints ah) ∧ backOk (fun x => ah.getD x 0) ch ∧ (∀ x, x ∈ ch → x < i) ∧ ch.Pairwise fun x y => y < x) ∧ Hid (∀ b, q'.ownBlock = some b → Value.ownBlock (.slice ha i hc) ≠ some b) ∧ Hid (Below w.heap.size w ws)) (fun iV _ _ => (intOf iV + 1).toNat)
        case atStart => exact ⟨0, _, Nat.zero_le _, rfl, rfl, hide (World.ownsRow_nil _ _ _ _), HAh, hide (fun b e => by cases e), Hbr⟩
        case round =>
          obtain ⟨k, q, hk, rfl, rfl, hrow, hah, hqn, hbr⟩ := hrel
          clear HAh Hbr cE
          obtain ⟨ah, h1, h2, h3, h4⟩ := hah.out
          have hck : ch.length ≤ i := desc_length h4 h3
          by_cases hkl : k < ch.length
          · have hxi : ch[k] < i := h3 _ (List.getElem_mem hkl)
            obtain ⟨g, hg0, hgl, ci⟩ := HRow.out wr ch[k] hbr.out hxi
            subst hg0
            obtain ⟨hg, hha⟩ : ∃ hg, ha = some ⟨hg, 0, none⟩ := by
              rcases h1.2 with ⟨_, e⟩ | ⟨g, cap, cur, e, _⟩
              · omega
              · simp at e; exact ⟨g, e.1⟩
            subst hha
            have hal : ah.length = i := by have := h1.1; rw [ints_length] at this; omega
            have hnx := chain_next h2 hkl
            have ca : wr.cell? ⟨hg, ch[k], none⟩ = some (.int .i64 (chAt ch (k + 1))) := by
              rw [h1.cellAt ch[k] (by omega)]
              unfold ints
              rw [List.getElem?_map, List.getElem?_eq_getElem (by omega), ← hnx]
              simp only [Option.map_some, List.getD_eq_getElem?_getD]
              rw [List.getElem?_eq_getElem (by omega)]
              rfl
            have HDec := hide (chAt_dec h4 hkl)
            rw [chAt_lt hkl] at HDec ⊢
            have hhw : hg < wr.heap.size := (h1.lt hg rfl).2
            have hws := hbr.out.size
            have hlen : (ints ((ch.take k).map v)).length = k := by rw [ints_length, List.length_map, List.length_take]; omega
            obtain ⟨qa, qc, hq⟩ := own_shape hrow.out
            subst hq
            have HFin : Hid (∀ w5 v5, Grew (wr.alloc (.cells #[.int .i64 (v ch[k])] 3)) w5 (.slice qa k qc) v5 → w5.ownsRow w.heap.size 3 1 v5 (k + 1) (ints ((ch.take k).map v) ++ [.int .i64 (v ch[k])]) → w5.ownsRow w.heap.size 3 1 v5 (k + 1) (ints ((ch.take (k + 1)).map v)) ∧ (∃ ah : List Int, w5.ownsRow w.heap.size 3 1 (.slice (some ⟨hg, 0, none⟩) i hc) i (ints ah) ∧ backOk (fun x => ah.getD x 0) ch ∧ (∀ x, x ∈ ch → x < i) ∧ ch.Pairwise fun x y => y < x) ∧ (∀ b, v5.ownBlock = some b → Value.ownBlock (.slice (some ⟨hg, 0, none⟩) i hc) ≠ some b) ∧ Below w.heap.size w w5 ∧ w5.cell? ⟨hg, ch[k], none⟩ = wr.cell? ⟨hg, ch[k], none⟩) := hide fun w5 v5 hg5 ho5 => by
              have hne : Value.ownBlock (.slice qa k qc) ≠ some hg := fun e => hqn.out hg e rfl
              have hk5 : w5.heap[hg]? = wr.heap[hg]? := (hg5.by.block hg (by simp; omega) (fun e => hne e.symm)).trans (Below.heap_alloc _ _ _ hhw)
              refine ⟨?_, ⟨ah, own_heap h1 fun b e => ?_, h2, h3, h4⟩, fun b e e2 => ?_, (hbr.out.alloc hws _).grown hg5.by (by simp; omega) (fun b e => (hrow.out.lt b e).1), World.cell?_of_block hk5⟩
              · rw [List.take_succ_eq_append_getElem hkl, List.map_append]
                have : ints ((ch.take k).map v ++ [ch[k]].map v) = ints ((ch.take k).map v) ++ [.int .i64 (v ch[k])] := ints_app _ _
                rw [this]
                exact ho5
              · have : hg = b := by simpa [Value.ownBlock] using e
                subst this; exact hk5
              · have e3 : hg = b := by simpa [Value.ownBlock] using e2
                subst e3
                rcases hg5 with ⟨e4, _⟩ | ⟨e4, _⟩
                · rw [e] at e4; exact hne e4.symm
                · rw [e] at e4
                  have := Option.some.inj e4
                  simp at this
                  omega
            have HRw : Hid (∀ O, (wr.alloc O).ownsRow w.heap.size 3 1 (.slice qa k qc) k (ints ((ch.take k).map v))) := hide fun O => hrow.out.alloc O
            have Hca := hide ca
            generalize hx0 : ch[k] = x0 at *
            clear hah hrow h1 h2 h3 h4 hnx hqn
            go_wp2_with ((at_builtin; refine wpList_app _ rfl (.tmp 64) (.tmp 69) 44 rfl w.heap.size 3 i0 (.int .i64 0) 1 8 Try.underlying44 hi hz0 hz1 hz2 rfl (.slice qa k qc) _ _ rfl (HRw.out _) (some ⟨wr.heap.size, 0, none⟩) 1 1 [.int .i64 (v x0)] rfl (by simp) rfl (cells_new _ _ _) (by simp [Value.oneCell']) (by omega) (by omega) (by simp; omega) ?_; intro v5 w5 ho5 hg5 _; have f6 := (HFin.out w5 v5 hg5.out ho5.out).2.2.2.2.trans Hca.out))
            obtain ⟨f1, f2, f3, f4, f5⟩ := HFin.out w5 v5 hg5.out ho5.out
            have F1 := hide f1
            have F2 := hide f2
            have F3 := hide f3
            have F4 := hide f4
            clear f1 f2 f3 f4 f5 ho5 hg5 HFin
            go_roundw
            case rel => exact ⟨k + 1, _, by omega, rfl, rfl, F1, F2, F3, F4⟩
            case measure => exact HDec.out
          · have hke : k = ch.length := by omega
            rw [chAt_end hkl]
            have hr := hrow.out
            rw [hke, List.take_length] at hr
            obtain ⟨qa, qc, hq⟩ := own_shape hr
            subst hq
            have hckn : ch.length ≤ 1000000 := by omega
            have HRv : Hid (Calls Try.prog 96 #[.slice qa ch.length qc] wr fun e w' => e = .returned (.tuple #[]) ∧ w'.ownsRow w.heap.size 3 1 (.slice qa ch.length qc) ch.length (ints (ch.map v).reverse) ∧ Touch (fun b => w.heap.size ≤ b) wr w') := hide (reverseI_any w.heap.size qa ch.length qc (ch.map v) wr hr hckn)
            have hlen2 : (ch.map v).reverse.length = ch.length := by rw [List.length_reverse, List.length_map]
            clear hrow hah h1 h2 h3 h4 hr
            go_wp2_with (first | (go_at_call 96; refine (unhide HRv).mono ?_; rintro e w9 ⟨rfl, hr9, ht9⟩))
            simp only [Exit.jump]
            go_ret
            refine ⟨_, rfl, ?_, below_touch0 hbr.out ht9⟩
            rw [HRP.out, hlen2]
            exact hr9
  case first =>
    intro hpass
    go_wp2_with fail
    have hst : LrAt v n w 0 ((w.alloc (.cells #[.int .i64 (-1)] 3)).alloc (.cells (madeCells #[.int .i64 0] n) 3)) (.slice (some ⟨w.heap.size, 0, none⟩) 1 1) (.slice (some ⟨w.heap.size + 1, 0, none⟩) n n) := by
      refine ⟨?_, ⟨List.replicate n 0, ?_, RowsOk.zero _⟩, fun b e e2 => ?_, ((Below.refl _ _).alloc (Nat.le_refl _) _).alloc (by simp) _⟩
      · exact (World.ownsRow_lit (size := 1) w #[.int .i64 (-1)] 1 (Nat.le_refl _) (by unfold maxLen; omega) rfl).alloc _
      · have h := World.ownsRow_lit (base := w.heap.size) (e := 3) (size := 1) (w.alloc (.cells #[.int .i64 (-1)] 3)) (madeCells #[.int .i64 0] n) n (by simp) (by unfold maxLen; omega) (by rw [size_madeCells]; omega)
        rw [ints_rep, World.size_alloc] at h
        exact h
      · have h1 : w.heap.size = b := by simpa [Value.ownBlock] using e
        have h2 : w.heap.size + 1 = b := by simpa [Value.ownBlock] using e2
        omega
    have HSt := hide hst
    clear hst
    go_step3
    simp only [Exit.then]
    rename_i hK
    refine hK _ _ ?_
    apply hpass
    exact ⟨0, _, _, _, _, _, _, _, _, _, _, _, _, _, _, _, _, _, _, _, _, _, _, _, _, _, _, _, _, _, _, _, _, _, _, _, _, _, _, _, _, _, _, _, _, _, _, _, _, _, _, _, _, _, _, _, _, _, _, _, _, _, _, _, _, _, _, _, _, _, _, _, _, rfl, Nat.zero_le _, HSt⟩
end Go.Proofs.Ytobgcaemnpkbmaa
