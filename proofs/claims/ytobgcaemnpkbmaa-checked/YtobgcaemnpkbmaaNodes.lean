/-
  What 'nodes' makes: a list that is lent.
-/
import Derived.Test.YtobgcaemnpkbmaaLent
namespace Go.Proofs.Ytobgcaemnpkbmaa
open Go.RowKit

/-- What came in: of a nil list of attributes the length is 0; each list's bytes. -/
structure In (L : Nat → Nod) (n : Nat) : Prop where
  nil : ∀ i, i < n → (L i).ao = none → (L i).an = 0
  few : ∀ i, i < n → (L i).an * 32 ≤ 140737488351232

theorem nodes_src {w : World} {ao : Option Addr} {n : Nat} {L : Nat → Nod} (h : ListAt w ao n L) (h0 : 0 < n) : ∃ ad, ao = some ad ∧ ∀ j, j < n * 5 → w.cell? (ad.add j) = some (nodesCell L j) := by
  obtain ⟨b, o, e, h⟩ := h h0
  refine ⟨⟨b, o, none⟩, e, fun j hj => ?_⟩
  rw [addr_add]
  obtain ⟨i, r, hr, e⟩ := five_cases j
  subst e
  rw [nodesCell_at _ _ _ hr]
  obtain ⟨c0, c1, c2, c3, c4, _⟩ := h.node i (by omega)
  match r, hr with
  | 0, _ => exact c0
  | 1, _ => exact c1
  | 2, _ => exact c2
  | 3, _ => exact c3
  | 4, _ => exact c4

theorem if_if {α : Type} (p : Prop) [Decidable p] (a b c : α) : (if p then a else if p then b else c) = if p then a else c := by
  by_cases h : p
  · rw [if_pos h, if_pos h]
  · rw [if_neg h, if_neg h, if_neg h]
theorem lent_start {L : Nat → Nod} {G : Nat → Nat} {n : Nat} {f : Nat → Value} (j : Nat) : (if j < n * 5 then nodesCell (midN L G n) j else f j) = if j < n * 5 then nodesCell (lentN L G n) j else f j := by
  by_cases h : j < n * 5
  · rw [if_pos h, if_pos h]
    refine nodesCell_congr ?_
    unfold midN lentN
    rw [if_pos (by omega), if_pos (by omega)]
  · rw [if_neg h, if_neg h]

theorem lent_spare {L : Nat → Nod} {G : Nat → Nat} {k m r : Nat} (h : k ≤ m) (hr : r < 5) : nodesCell (lentN L G k) (m * 5 + r) = nodCell spareN r := by
  rw [nodesCell_at _ _ _ hr]; unfold lentN; rw [if_neg (by omega)]
theorem lent_step {L : Nat → Nod} {G : Nat → Nat} {k m : Nat} {f : Nat → Value} (h : k ≤ m) (j : Nat) :
    (if j = m * 5 + 4 then .string ⟨#[]⟩ else if j = m * 5 + 3 then .slice none 0 0 else if j = m * 5 + 2 then .int .i64 0 else if j = m * 5 + 1 then .string ⟨#[115, 112, 97, 114, 101]⟩ else if j = m * 5 then .int .i64 0 else if j < m * 5 then nodesCell (lentN L G k) j else f j)
      = if j < (m + 1) * 5 then nodesCell (lentN L G k) j else f j := by
  by_cases h4 : j = m * 5 + 4
  · rw [if_pos h4, if_pos (by omega), h4, lent_spare h (by omega)]; rfl
  rw [if_neg h4]
  by_cases h3 : j = m * 5 + 3
  · rw [if_pos h3, if_pos (by omega), h3, lent_spare h (by omega)]; rfl
  rw [if_neg h3]
  by_cases h2 : j = m * 5 + 2
  · rw [if_pos h2, if_pos (by omega), h2, lent_spare h (by omega)]; rfl
  rw [if_neg h2]
  by_cases h1 : j = m * 5 + 1
  · rw [if_pos h1, if_pos (by omega), h1, lent_spare h (by omega)]; rfl
  rw [if_neg h1]
  by_cases h0 : j = m * 5
  · rw [if_pos h0, if_pos (by omega), h0]; exact (lent_spare (r := 0) h (by omega)).symm
  rw [if_neg h0]
  by_cases hl : j < m * 5
  · rw [if_pos hl, if_pos (by omega)]
  · rw [if_neg hl, if_neg (by omega)]

theorem row_step {n k : Nat} {f g h : Nat → Value} {v : Value} (hk : k < n) (e : ∀ j, (if j = k * 5 + 3 then v else g j) = h j) (j : Nat) :
    (if j = k * 5 + 3 then v else if j < n * 5 then g j else f j) = if j < n * 5 then h j else f j := by
  rw [← e j]
  by_cases h1 : j = k * 5 + 3
  · rw [if_pos h1, if_pos (by omega), if_pos h1]
  · rw [if_neg h1, if_neg h1]

set_option maxRecDepth 100000 in
set_option maxHeartbeats 1000000 in
theorem nodes_any (ao : Option Addr) (n c : Nat) (L : Nat → Nod) (w : World) (hn : n * 72 ≤ 140737488351232) (h : ListAt w ao n L) (hin : In L n) :
    Calls Try.prog 8 #[.slice ao n c] w fun e w' => e = .returned (.slice (some ⟨w.heap.size, 0, none⟩) (n + 3) (n + 3)) ∧ Below w.heap.size w w' ∧
      ∃ G, w'.rowIs w.heap.size 28 ((n + 3) * 5) (nodesCell (lentN L G n)) ∧ RowsAt w' L G w.heap.size n := by
  obtain ⟨i0, hi, hz0, hz1, hz2⟩ := info_parts nodeInfo
  have H := hide h
  have HI := hide hin
  clear h hin
  have hnq : ∀ w a l c, (binOp .neq 26 (.slice a l c) (.slice none 0 0)).run Try.prog w = .ok (.bool a.isSome) w := fun w a l c => by
    have := run_neq_slice_nil_any (P := Try.prog) w 26 58 a l c 0 0 Try.underlying26
    simpa using this
  go_enter Try.func8, Try.ntmps8
  go_wp2_with (first | (refine wpList_make_rows rfl (.tmp 8) (.tmp 8) 22 rfl 28 i0 _ 5 72 Try.underlying22 hi hz0 hz1 hz2 .i64 .i64 _ (n + 3) rfl rfl (by omega) (by omega) (by omega) ?_; intro w1 f1 hr1 hs1 hb1) | (refine wpList_copy_rows rfl (.tmp 10) (.tmp 11) 22 22 rfl 28 Try.underlying22 5 nodeSize w.heap.size (n + 3) (n + 3) ao n c rfl rfl (by omega) 28 ((n + 3) * 5) f1 (unhide hr1) (nodesCell L) (nodes_src ((unhide H).below hb1)) (by omega) (fun j _ => nodCell_one _ _) w.heap.size w hb1 (Nat.le_refl _) ?_; intro w2 hr2 hs2 hb2))
  go_loopw [4] (fun i wr => ∃ (k : Nat) (G : Nat → Nat), k ≤ n ∧ i = .int .i64 k ∧ Hid (wr.rowIs w.heap.size 28 ((n + 3) * 5) (fun j => if j < n * 5 then nodesCell (midN L G k) j else f1 j)) ∧ Hid (RowsAt wr L G w.heap.size k) ∧ Below w.heap.size w wr) (fun i _ => n - (intOf i).toNat)
  case atStart => exact ⟨0, fun _ => 0, Nat.zero_le _, rfl, hr2, hide (RowsAt.zero _ _ _ _), hb2⟩
  case round =>
    obtain ⟨k, G, hk, rfl, hr, hR, hbel⟩ := hrel
    clear hr1 hr2 hb1 hb2 hs1 hs2
    by_cases hlt : k < n
    · obtain ⟨b, o, rfl, hL⟩ := H.out (by omega)
      have hbw := hL.lt
      have hNode := hL.node k hlt
      clear hL
      have d3 := (hbel.cell (p := ⟨b, o + k * 5 + 3, none⟩) hbw).trans hNode.c3
      obtain ⟨u0, hu0⟩ : ∃ u, wr.cell? ⟨w.heap.size, k * 5 + 3, none⟩ = some u := ⟨_, hr.out.cell (by omega)⟩
      have f0 := hr.out.frozen (k * 5 + 3)
      have hbne : b ≠ w.heap.size := by omega
      cases hao : (L k).ao with
      | none =>
        rw [hao] at d3
        have hN := HI.out.nil k hlt hao
        have HR := hide ((hr.out.set (k * 5 + 3) (.slice none 0 0)).congr fun j _ => row_step (n := n) (f := f1) hlt (midN_step (L := L) (G := G) (G' := G) (fun _ _ _ => rfl) (.slice none 0 0) (by rw [newN_nil hao hN]; rfl)) j)
        have HS := hide ((hR.out.setCell (k * 5 + 3) (.slice none 0 0)).skip hao)
        clear hr hR
        go_wp2
        go_roundw
        case rel => exact ⟨k + 1, G, by omega, by go_num, HR, HS, hbel.setCell (Nat.le_refl _) _⟩
        case measure => simp [intOf]; omega
      | some ad =>
        rw [hao] at d3
        have hne : (L k).ao ≠ none := by rw [hao]; simp
        have HAt := hide (hNode.ok.at'.below hbel)
        rw [hao] at HAt
        have hfew := HI.out.few k hlt
        have hrs := hr.out.set (k * 5 + 3) (.slice none 0 0)
        have hRs := hR.out.setCell (k * 5 + 3) (.slice none 0 0)
        have hbs := hbel.setCell (p := ⟨w.heap.size, k * 5 + 3, none⟩) (Nat.le_refl _) (.slice none 0 0)
        have hAs := hide (show AttrsAt (wr.setCell ⟨w.heap.size, k * 5 + 3, none⟩ (.slice none 0 0)) (some ad) (L k).an (L k).nm (L k).vl by
          rw [← hao]; exact hNode.ok.at'.below hbs)
        have e3 := (hbs.cell (p := ⟨b, o + k * 5 + 3, none⟩) hbw).trans hNode.c3
        rw [hao] at e3
        have H1 := hide hrs
        have H2 := hide hRs
        have hgw := hrs.lt
        clear hrs hRs hr hR HAt hNode
        go_wp2
        generalize wr.setCell ⟨w.heap.size, k * 5 + 3, none⟩ (.slice none 0 0) = ws at *
        clear d3 hu0 f0
        obtain ⟨u0, hu0⟩ : ∃ u, ws.cell? ⟨w.heap.size, k * 5 + 3, none⟩ = some u := ⟨_, H1.out.cell (by omega)⟩
        have f0 := H1.out.frozen (k * 5 + 3)
        have hbsz : b < ws.heap.size := Nat.lt_of_lt_of_le hbw hbs.size
        go_region_with ((go_at_call 24; refine (attrs_any (some ad) (L k).an (L k).ac (L k).nm (L k).vl _ hfew ((unhide hAs).below (Below.refl _ _).drew)).mono ?_; rintro e w5 ⟨rfl, hb5, hr5⟩; have e5 := (hb5.cell (p := ⟨b, o + k * 5 + 3, none⟩) hbsz).trans e3; have u5 := (hb5.cell (p := ⟨w.heap.size, k * 5 + 3, none⟩) hgw).trans hu0; have f5 := (hb5.frozen (p := ⟨w.heap.size, k * 5 + 3, none⟩) hgw).trans f0))
        all_goals
          have hb6 := (Below.refl ws.heap.size ws).drew.trans hb5
          have HR := hide ((((rowIs_below H1.out hb6 hgw).set (k * 5 + 3) (.slice (some ⟨ws.heap.size, 0, none⟩) (L k).an ((L k).an + 3)))).congr fun j _ => (if_if _ _ _ _).trans (row_step (n := n) (f := f1) hlt (midN_step (L := L) (G := G) (G' := fun i => if i = k then ws.heap.size else G i) (fun i hik _ => by simp only [show i ≠ k by omega, if_false]) (.slice (some ⟨ws.heap.size, 0, none⟩) (L k).an ((L k).an + 3)) (by simp only [if_true]; rw [newN_some hne]; rfl)) j))
          have HS := hide ((H2.out.more hgw hb6 hr5).setCell (k * 5 + 3) (.slice (some ⟨ws.heap.size, 0, none⟩) (L k).an ((L k).an + 3)))
          have HB := hide ((hbs.trans (hb6.mono hbs.size)).setCell (p := ⟨w.heap.size, k * 5 + 3, none⟩) (Nat.le_refl _) (.slice (some ⟨ws.heap.size, 0, none⟩) (L k).an ((L k).an + 3)))
          clear H1 H2 hb6 hb5 hr5
          go_wp2
          go_roundw
          case rel => exact ⟨k + 1, _, by omega, by go_num, HR, HS, HB.out⟩
          case measure => simp [intOf]; omega
    · have hkn : k = n := by omega
      subst hkn
      have HL1 := hide ((hr.out).congr (fun j _ => lent_start (f := f1) j))
      clear hr
      go_wp2
      go_loopw [5] (fun i wr => ∃ m : Nat, k ≤ m ∧ m ≤ k + 3 ∧ i = .int .i64 m ∧ Hid (wr.rowIs w.heap.size 28 ((k + 3) * 5) (fun j => if j < m * 5 then nodesCell (lentN L G k) j else f1 j)) ∧ Hid (RowsAt wr L G w.heap.size k) ∧ Below w.heap.size w wr) (fun i _ => k + 3 - (intOf i).toNat)
      case atStart => exact ⟨k, Nat.le_refl _, by omega, rfl, HL1, hR, hbel⟩
      case round =>
        obtain ⟨m, hm1, hm2, rfl, hr, hR, hbel⟩ := hrel
        by_cases hmt : m < k + 3
        · obtain ⟨u0, hu0⟩ : ∃ u, wr.cell? ⟨w.heap.size, m * 5, none⟩ = some u := ⟨_, hr.out.cell (by omega)⟩
          obtain ⟨u1, hu1⟩ : ∃ u, wr.cell? ⟨w.heap.size, m * 5 + 1, none⟩ = some u := ⟨_, hr.out.cell (by omega)⟩
          obtain ⟨u2, hu2⟩ : ∃ u, wr.cell? ⟨w.heap.size, m * 5 + 2, none⟩ = some u := ⟨_, hr.out.cell (by omega)⟩
          obtain ⟨u3, hu3⟩ : ∃ u, wr.cell? ⟨w.heap.size, m * 5 + 3, none⟩ = some u := ⟨_, hr.out.cell (by omega)⟩
          obtain ⟨u4, hu4⟩ : ∃ u, wr.cell? ⟨w.heap.size, m * 5 + 4, none⟩ = some u := ⟨_, hr.out.cell (by omega)⟩
          have f0 := hr.out.frozen (m * 5)
          have f1' := hr.out.frozen (m * 5 + 1)
          have f2 := hr.out.frozen (m * 5 + 2)
          have f3 := hr.out.frozen (m * 5 + 3)
          have f4 := hr.out.frozen (m * 5 + 4)
          go_wp2
          go_roundw
          case rel => exact ⟨m + 1, by omega, by omega, by go_num, hide ((((((hr.out.set _ _).set _ _).set _ _).set _ _).set _ _).congr fun j _ => lent_step hm1 j), hide (((((hR.out.setCell _ _).setCell _ _).setCell _ _).setCell _ _).setCell _ _), ((((hbel.setCell (Nat.le_refl _) _).setCell (Nat.le_refl _) _).setCell (Nat.le_refl _) _).setCell (Nat.le_refl _) _).setCell (Nat.le_refl _) _⟩
          case measure => simp [intOf]; omega
        · go_wp2
          go_ret
          refine ⟨rfl, hbel, G, hr.out.congr fun j hj => ?_, hR.out⟩
          rw [if_pos (by omega)]

end Go.Proofs.Ytobgcaemnpkbmaa
