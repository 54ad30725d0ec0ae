/- Whole Pats2 Book Mrk -/
import Derived.Test.YtobgcaemnpkbmaaGreatD36
import Derived.Test.YtobgcaemnpkbmaaGreatD05
import Derived.Test.YtobgcaemnpkbmaaGreatD32
namespace Go.Proofs.YtobgcaemnpkbmaaGreat
open Go.RowKit
def lentS (L : Nat → Nod) (G : Nat → Nat) (g n : Nat) : Nat → Prop := fun b => b = g ∨ ∃ i, i < n ∧ (L i).ao ≠ none ∧ b = G i
structure Wh (M W w : World) (g : Nat) (L : Nat → Nod) (G : Nat → Nat) (n kr ka : Nat) : Prop where
  row : ∃ f, w.rowIs g 33 ((n + 3) * 5) f ∧ ∀ j, kr * 5 ≤ j → f j = nodesCell (lentN L G n) j
  rows : ∀ i, ka ≤ i → i < n → (L i).ao ≠ none → w.rowIs (G i) 72 (((L i).an + 3) * 2) (attrRow (L i).an (L i).nm (L i).vl)
  below : Below g W w
  far : Touch (lentS L G g n) M w
structure Gs (L : Nat → Nod) (G : Nat → Nat) (g n : Nat) : Prop where
  above : ∀ i, i < n → (L i).ao ≠ none → g < G i
  rise : ∀ i j, i < j → j < n → (L i).ao ≠ none → (L j).ao ≠ none → G i < G j
section
variable {M W w w' : World} {g : Nat} {L : Nat → Nod} {G : Nat → Nat} {n kr ka : Nat}
theorem Wh.lt (h : Wh M W w g L G n kr ka) : g < w.heap.size := by obtain ⟨f, hf, _⟩ := h.row; exact hf.lt
theorem Wh.grow (h : Wh M W w g L G n kr ka) (hb : Below w.heap.size w w') : Wh M W w' g L G n kr ka := by
  obtain ⟨f, hf, hj⟩ := h.row
  exact ⟨⟨f, rowIs_below hf hb hf.lt, hj⟩, fun i h1 h2 h3 => rowIs_below (h.rows i h1 h2 h3) hb (h.rows i h1 h2 h3).lt, h.below.trans (hb.mono (Nat.le_of_lt hf.lt)), h.far.trans (Touch.of_below hb)⟩
theorem Wh.cell (h : Wh M W w g L G n kr ka) {i r : Nat} (hi : kr ≤ i) (hn : i < n + 3) (hr : r < 5) : w.cell? ⟨g, i * 5 + r, none⟩ = some (nodCell (lentN L G n i) r) := by
  obtain ⟨f, hf, hj⟩ := h.row
  rw [hf.cell (by omega), hj _ (by omega), nodesCell_at _ _ _ hr]
theorem Wh.frozen (h : Wh M W w g L G n kr ka) (j : Nat) : w.frozen? ⟨g, j, none⟩ = false := by
  obtain ⟨f, hf, _⟩ := h.row
  exact hf.frozen j
theorem Wh.set (h : Wh M W w g L G n (kr + 1) ka) (hG : Gs L G g n) {j : Nat} (hj : j < (kr + 1) * 5) (v : Value) : Wh M W (w.setCell ⟨g, j, none⟩ v) g L G n (kr + 1) ka := by
  obtain ⟨f, hf, hjj⟩ := h.row
  refine ⟨⟨_, hf.set j v, fun i hi => ?_⟩, fun i h1 h2 h3 => (h.rows i h1 h2 h3).setOther (by have := hG.above i h2 h3; show G i ≠ g; omega) v, h.below.setCell (Nat.le_refl _) v, h.far.set (.inl (.inl rfl)) v⟩
  rw [if_neg (by omega)]; exact hjj i hi
theorem Wh.next (h : Wh M W w g L G n kr ka) : Wh M W w g L G n (kr + 1) ka := by
  obtain ⟨f, hf, hjj⟩ := h.row
  exact ⟨⟨f, hf, fun j hj => hjj j (by omega)⟩, h.rows, h.below, h.far⟩
theorem Wh.pass (h : Wh M W w g L G n kr ka) : Wh M W w g L G n kr (ka + 1) :=
  ⟨h.row, fun i h1 h2 h3 => h.rows i (by omega) h2 h3, h.below, h.far⟩
theorem Wh.over (h : Wh M W w g L G n kr ka) (hG : Gs L G g n) (v0 v1 v2 v3 v4 : Value) :
    Wh M W (((((w.setCell ⟨g, kr * 5, none⟩ v0).setCell ⟨g, kr * 5 + 1, none⟩ v1).setCell ⟨g, kr * 5 + 2, none⟩ v2).setCell ⟨g, kr * 5 + 3, none⟩ v3).setCell ⟨g, kr * 5 + 4, none⟩ v4) g L G n (kr + 1) ka :=
  ((((h.next.set hG (by omega) v0).set hG (by omega) v1).set hG (by omega) v2).set hG (by omega) v3).set hG (by omega) v4
theorem Wh.alloc (h : Wh M W w g L G n kr ka) (o : Obj) : Wh M W (w.alloc o) g L G n kr ka := h.grow ((Below.refl _ _).alloc (Nat.le_refl _) o)
end
structure Inn (M W w : World) (g : Nat) (L : Nat → Nod) (G : Nat → Nat) (n k b m : Nat) : Prop where
  own : ∃ f, w.rowIs (G k) 72 (((L k).an + 3) * 2) f ∧ ∀ j, m * 2 ≤ j → f j = attrRow (L k).an (L k).nm (L k).vl j
  other : w.rowIs b 72 (((L k).an + 3) * 2) (attrRow (L k).an (L k).nm (L k).vl)
  rest : Wh M W w g L G n k (k + 1)
  apart : b ≠ G k
section
variable {M W w w' : World} {g : Nat} {L : Nat → Nod} {G : Nat → Nat} {n k b m : Nat}
theorem Inn.grow (h : Inn M W w g L G n k b m) (hb : Below w.heap.size w w') : Inn M W w' g L G n k b m := by
  obtain ⟨f, hf, hj⟩ := h.own
  exact ⟨⟨f, rowIs_below hf hb hf.lt, hj⟩, rowIs_below h.other hb h.other.lt, h.rest.grow hb, h.apart⟩
theorem Inn.start (h : Wh M W w g L G n k k) (hk : k < n) (hn : (L k).ao ≠ none) (hb : Below w.heap.size w w') (hr : w'.rowIs w.heap.size 72 (((L k).an + 3) * 2) (attrRow (L k).an (L k).nm (L k).vl)) : Inn M W w' g L G n k w.heap.size 0 := by
  have h1 := h.rows k (Nat.le_refl _) hk hn
  exact ⟨⟨_, rowIs_below h1 hb h1.lt, fun _ _ => rfl⟩, hr, h.pass.grow hb, by have := h1.lt; omega⟩
theorem attrRow_str (an : Nat) (nm vl : Nat → ByteArray) (j : Nat) : ∃ s, attrRow an nm vl j = .string s := by
  unfold attrRow attrCell; split
  · exact ⟨_, rfl⟩
  · exact ⟨_, rfl⟩
theorem Inn.cells (h : Inn M W w g L G n k b m) {j : Nat} (h1 : m * 2 ≤ j) (h2 : j < ((L k).an + 3) * 2) : ∃ s, w.cell? ⟨G k, j, none⟩ = some (.string s) ∧ w.cell? ⟨b, j, none⟩ = some (.string s) := by
  obtain ⟨s, hs⟩ := attrRow_str (L k).an (L k).nm (L k).vl j
  obtain ⟨f, hf, hj⟩ := h.own
  exact ⟨s, by rw [hf.cell h2, hj j h1, hs], by rw [h.other.cell h2, hs]⟩
theorem Inn.frozen (h : Inn M W w g L G n k b m) (j : Nat) : w.frozen? ⟨G k, j, none⟩ = false := by
  obtain ⟨f, hf, _⟩ := h.own
  exact hf.frozen j
theorem Wh.away (h : Wh M W w g L G n k (k + 1)) (hG : Gs L G g n) (hk : k < n) (hn : (L k).ao ≠ none) (j : Nat) (v : Value) : Wh M W (w.setCell ⟨G k, j, none⟩ v) g L G n k (k + 1) := by
  obtain ⟨f, hf, hjj⟩ := h.row
  have hgk := hG.above k hk hn
  exact ⟨⟨f, hf.setOther (by show g ≠ G k; omega) v, hjj⟩, fun i h1 h2 h3 => (h.rows i h1 h2 h3).setOther (by have := hG.rise k i (by omega) h2 hn h3; show G i ≠ G k; omega) v,
    h.below.setCell (by show g ≤ G k; omega) v, h.far.set (.inl (.inr ⟨k, hk, hn, rfl⟩)) v⟩
theorem Inn.step (h : Inn M W w g L G n k b m) (hG : Gs L G g n) (hk : k < n) (hn : (L k).ao ≠ none) (v0 v1 : Value) : Inn M W ((w.setCell ⟨G k, m * 2, none⟩ v0).setCell ⟨G k, m * 2 + 1, none⟩ v1) g L G n k b (m + 1) := by
  obtain ⟨f, hf, hj⟩ := h.own
  refine ⟨⟨_, (hf.set (m * 2) v0).set (m * 2 + 1) v1, fun j hjm => ?_⟩, (h.other.setOther h.apart v0).setOther h.apart v1, (h.rest.away hG hk hn _ _).away hG hk hn _ _, h.apart⟩
  rw [if_neg (by omega), if_neg (by omega)]
  exact hj j (by omega)
end
set_option maxRecDepth 100000 in
set_option maxHeartbeats 2000000 in
theorem whole_any (W : World) (ao : Option Addr) (n c : Nat) (L : Nat → Nod) (G : Nat → Nat) (w : World) (_hn : n * 72 ≤ 140737488351232) (h : ListAt W ao n L) (hin : In L n) (hG : Gs L G W.heap.size n) (hw : Wh w W w W.heap.size L G n 0 0) :
    Calls Tryz.prog 12 #[.slice (some ⟨W.heap.size, 0, none⟩) (n + 3) (n + 3), .slice ao n c] w fun e w' => e = .returned (.bool true) ∧ Below W.heap.size W w' ∧ Touch (lentS L G W.heap.size n) w w' := by
  have H := hide h
  have HI := hide hin
  have HW := hide hw
  have HG := hide hG
  clear h hin hw hG
  have hnq : ∀ w a l c, (binOp .neq 31 (.slice a l c) (.slice none 0 0)).run Tryz.prog w = .ok (.bool a.isSome) w := fun w a l c => by
    have := run_neq_slice_nil_any (P := Tryz.prog) w 31 72 a l c 0 0 Tryz.underlying31
    simpa using this
  have heq : ∀ w a l c, (binOp .eql 31 (.slice a l c) (.slice none 0 0)).run Tryz.prog w = .ok (.bool a.isNone) w := fun w a l c =>
    Lib.run_eql_slice_nil (P := Tryz.prog) w 31 72 a l c 0 0 Tryz.underlying31
  go_enter Tryz.func12, Tryz.ntmps12
  go_wp2
  go_loopw [5, 6, 7, 8, 9, 10, 11] (fun ok i _ _ _ _ _ wr => ∃ k : Nat, k ≤ n + 3 ∧ i = .int .i64 k ∧ ok = .bool true ∧ Hid (Wh w W wr W.heap.size L G n k k)) (fun _ i _ _ _ _ _ _ => n + 3 - (intOf i).toNat)
  case atStart => exact ⟨0, Nat.zero_le _, rfl, rfl, HW⟩
  case round =>
    obtain ⟨k, hk, rfl, rfl, hr⟩ := hrel
    clear HW
    by_cases hlt : k < n + 3
    · have x0 := hr.out.cell (r := 0) (Nat.le_refl _) hlt (by omega)
      have x1 := fun O => (World.cell?_alloc_lt wr O ⟨W.heap.size, _, none⟩ hr.out.lt).trans (hr.out.cell (r := 1) (Nat.le_refl _) hlt (by omega))
      have x2 := fun O => (World.cell?_alloc_lt wr O ⟨W.heap.size, _, none⟩ hr.out.lt).trans (hr.out.cell (r := 2) (Nat.le_refl _) hlt (by omega))
      have x3 := fun O => (World.cell?_alloc_lt wr O ⟨W.heap.size, _, none⟩ hr.out.lt).trans (hr.out.cell (r := 3) (Nat.le_refl _) hlt (by omega))
      have x4 := fun O => (World.cell?_alloc_lt wr O ⟨W.heap.size, _, none⟩ hr.out.lt).trans (hr.out.cell (r := 4) (Nat.le_refl _) hlt (by omega))
      have y0 := hr.out.cell (r := 0) (Nat.le_refl _) hlt (by omega)
      have y1 := hr.out.cell (r := 1) (Nat.le_refl _) hlt (by omega)
      have y2 := hr.out.cell (r := 2) (Nat.le_refl _) hlt (by omega)
      have y3 := hr.out.cell (r := 3) (Nat.le_refl _) hlt (by omega)
      have y4 := hr.out.cell (r := 4) (Nat.le_refl _) hlt (by omega)
      have fz := hr.out.frozen
      have hgs := hr.out.lt
      simp only [Nat.add_zero] at x0 y0
      by_cases hkn : k < n
      · have el : lentN L G n k = newN (L k) (G k) := by unfold lentN; rw [if_pos hkn]
        simp only [el] at x0 x1 x2 x3 x4 y0 y1 y2 y3 y4
        clear el
        obtain ⟨b, o, rfl, hL⟩ := H.out (by omega)
        have hbw := hL.lt
        have hNode := (hL.node k hkn)
        have hbel := hr.out.below
        have c0 := fun O => (World.cell?_alloc_lt wr O ⟨b, _, none⟩ (Nat.lt_trans hbw hgs)).trans ((hbel.cell (p := ⟨b, _, none⟩) hbw).trans hNode.c0)
        have c1 := fun O => (World.cell?_alloc_lt wr O ⟨b, _, none⟩ (Nat.lt_trans hbw hgs)).trans ((hbel.cell (p := ⟨b, _, none⟩) hbw).trans hNode.c1)
        have c2 := fun O => (World.cell?_alloc_lt wr O ⟨b, _, none⟩ (Nat.lt_trans hbw hgs)).trans ((hbel.cell (p := ⟨b, _, none⟩) hbw).trans hNode.c2)
        have c3 := fun O => (World.cell?_alloc_lt wr O ⟨b, _, none⟩ (Nat.lt_trans hbw hgs)).trans ((hbel.cell (p := ⟨b, _, none⟩) hbw).trans hNode.c3)
        have c4 := fun O => (World.cell?_alloc_lt wr O ⟨b, _, none⟩ (Nat.lt_trans hbw hgs)).trans ((hbel.cell (p := ⟨b, _, none⟩) hbw).trans hNode.c4)
        have hbr : b ≠ wr.heap.size := by omega
        have hgr : W.heap.size ≠ wr.heap.size := by omega
        cases hao : (L k).ao with
        | none =>
          have hN := HI.out.nil k hkn hao
          simp only [newN_nil hao hN, nodCell] at x0 x1 x2 x3 x4 y0 y1 y2 y3 y4
          simp only [hao, hN] at c3
          go_wp2
          go_roundw
          case rel => exact ⟨k + 1, by omega, by go_num, rfl, hide (((hr.out.pass.over HG.out _ _ _ _ _).alloc _).alloc _)⟩
          case measure => simp [intOf]; omega
        | some ad =>
          have hne : (L k).ao ≠ none := by rw [hao]; simp
          simp only [newN_some hne, nodCell] at x0 x1 x2 x3 x4 y0 y1 y2 y3 y4
          simp only [hao] at c3
          have hfew := HI.out.few k hkn
          have HAt : Hid (∀ O O', AttrsAt ((wr.alloc O).alloc O') (some ad) (L k).an (L k).nm (L k).vl) := hide (fun O O' => by
            rw [← hao]; exact hNode.ok.at'.below ((hbel.alloc (by omega) O).alloc (by simp; omega) O'))
          clear hNode hL hbel
          go_wp2_with (go_at_call 21; refine (attrs_any (some ad) (L k).an (L k).ac (L k).nm (L k).vl _ hfew (unhide HAt _ _)).mono ?_; rintro e w5 ⟨rfl, hb5, hr5⟩)
          have HS := Inn.start ((hr.out.alloc _).alloc _) hkn hne hb5 hr5
          simp only [World.size_alloc] at HS
          replace HS := hide HS
          clear hb5 hr5 HAt hr x0 x1 x2 x3 x4 y0 y1 y2 y3 y4 c0 c1 c2 c3 c4 fz hgr hbr hgs
          generalize wr.heap.size + 1 + 1 = b5 at *
          go_loopw [5, 11] (fun ok i wx => ∃ m : Nat, m ≤ (L k).an + 3 ∧ i = .int .i64 m ∧ ok = .bool true ∧ Hid (Inn w W wx W.heap.size L G n k b5 m)) (fun _ i _ => (L k).an + 3 - (intOf i).toNat)
          case atStart => exact ⟨0, Nat.zero_le _, rfl, rfl, HS⟩
          case round =>
            obtain ⟨m, hm, rfl, rfl, hr⟩ := hrel
            clear HS
            by_cases hmt : m < (L k).an + 3
            · obtain ⟨s0, p0, q0⟩ := hr.out.cells (j := m * 2) (Nat.le_refl _) (by omega)
              obtain ⟨s1, p1, q1⟩ := hr.out.cells (j := m * 2 + 1) (by omega) (by omega)
              have fz := hr.out.frozen
              go_wp2
              go_big_quiet (fail)
              go_wp2
              go_roundw
              case rel => exact ⟨m + 1, by omega, by go_num, rfl, hide ((hr.out.grow (drewN_of (Below.refl _ _) _)).step HG.out hkn hne _ _)⟩
              case measure => simp [intOf]; omega
            · have hq := hide hr.out.rest
              clear hr
              have y0 := hq.out.cell (r := 0) (Nat.le_refl _) hlt (by omega)
              have y1 := hq.out.cell (r := 1) (Nat.le_refl _) hlt (by omega)
              have y2 := hq.out.cell (r := 2) (Nat.le_refl _) hlt (by omega)
              have y3 := hq.out.cell (r := 3) (Nat.le_refl _) hlt (by omega)
              have y4 := hq.out.cell (r := 4) (Nat.le_refl _) hlt (by omega)
              have fz := hq.out.frozen
              simp only [Nat.add_zero] at y0
              go_wp2
              go_roundw
              case rel => exact ⟨k + 1, by omega, by go_num, rfl, hide (hq.out.over HG.out _ _ _ _ _)⟩
              case measure => simp [intOf]; omega
      · have el : lentN L G n k = spareN := by unfold lentN; rw [if_neg hkn]
        simp only [el, spareN, nodCell, spareS] at x0 x1 x2 x3 x4 y0 y1 y2 y3 y4
        clear el
        go_wp2
        go_roundw
        case rel => exact ⟨k + 1, by omega, by go_num, rfl, hide (((hr.out.pass.over HG.out _ _ _ _ _).alloc _).alloc _)⟩
        case measure => simp [intOf]; omega
    · go_wp2
      go_ret
      exact ⟨rfl, hr.out.below, hr.out.far⟩
end Go.Proofs.YtobgcaemnpkbmaaGreat
namespace Go.Proofs.YtobgcaemnpkbmaaGreat
open Go.RowKit
set_option maxRecDepth 100000 in
set_option maxHeartbeats 400000 in
theorem lentPatches_any (ao : Option Addr) (g n c : Nat) (w : World) (hn : n ≤ 140737488351232) :
    Calls Tryz.prog 35 #[.slice (some ⟨g, 0, none⟩) (n + 3) (n + 3), .slice ao n c] w fun e w' => e = .returned (.slice (lentAo ao g) (lentLen ao n) (lentCap ao n)) ∧ w' = w := by
  have heq : ∀ w a l c, (binOp .eql 25 (.slice a l c) (.slice none 0 0)).run Tryz.prog w = .ok (.bool a.isNone) w := fun w a l c =>
    Lib.run_eql_slice_nil (P := Tryz.prog) w 25 29 a l c 0 0 Tryz.underlying25
  cases ao with
  | none =>
    go_enter Tryz.func35, Tryz.ntmps35
    go_wp2
    go_ret
    exact ⟨rfl, rfl⟩
  | some ad =>
    go_enter Tryz.func35, Tryz.ntmps35
    go_wp2
    go_ret
    exact ⟨rfl, rfl⟩
theorem Touch.drewN {S : Nat → Prop} {w w' : World} (h : Touch S w w') (n : Nat) : Touch S w (w'.drewN n) := ⟨h.os, h.tape, h.output, h.size, h.block⟩
structure POver (w0 w : World) (g n m : Nat) (X : Nat → Pat) : Prop where
  row : ∃ f, w.rowIs g 29 ((n + 3) * 8) f ∧ ∀ j, m * 8 ≤ j → f j = patsCell (lentP X n) j
  want : w.rowIs w0.heap.size 29 ((n + 3) * 8) (patsCell (lentP X n))
  ne : g < w0.heap.size
  touch : Touch (fun b => b = g) w0 w
theorem POver.next {w0 w : World} {g n m : Nat} {X : Nat → Pat} (h : POver w0 w g n m X) : POver w0 w g n (m + 1) X := by
  obtain ⟨f, hf, he⟩ := h.row
  exact ⟨⟨f, hf, fun j hj => he j (by omega)⟩, h.want, h.ne, h.touch⟩
theorem POver.drewN {w0 w : World} {g n m : Nat} {X : Nat → Pat} (h : POver w0 w g n m X) (q : Nat) : POver w0 (w.drewN q) g n m X := by
  obtain ⟨f, hf, he⟩ := h.row
  exact ⟨⟨f, hf.of_block rfl, he⟩, h.want.of_block rfl, h.ne, h.touch.drewN q⟩
theorem POver.set {w0 w : World} {g n m : Nat} {X : Nat → Pat} (h : POver w0 w g n m X) {j : Nat} (hj : j < m * 8) (v : Value) : POver w0 (w.setCell ⟨g, j, none⟩ v) g n m X := by
  obtain ⟨f, hf, he⟩ := h.row
  refine ⟨⟨_, hf.set j v, fun i hi => ?_⟩, h.want.setOther (by have := h.ne; show w0.heap.size ≠ g; omega) v, h.ne, h.touch.set (.inl rfl) v⟩
  rw [if_neg (by omega)]
  exact he i hi
set_option maxRecDepth 100000 in
set_option maxHeartbeats 2000000 in
theorem wholePatches_any (ao : Option Addr) (g n c : Nat) (X : Nat → Pat) (w : World) (hn : n * 88 ≤ 140737488351232) (h : PListAt w ao n X) (hg : w.rowIs g 29 ((n + 3) * 8) (patsCell (lentP X n))) :
    Calls Tryz.prog 36 #[.slice (some ⟨g, 0, none⟩) (n + 3) (n + 3), .slice ao n c] w fun e w' => e = .returned (.bool true) ∧ Touch (fun b => b = g) w w' := by
  have H := hide h
  have HG := hide hg
  clear h hg
  go_enter Tryz.func36, Tryz.ntmps36
  go_wp2_with (first | (go_at_call 33; refine (patches_any ao n c X _ hn (unhide H)).mono ?_; rintro e w2 ⟨rfl, hb2, hr2⟩))
  have HS : Hid (POver w w2 g n 0 X) := hide ⟨⟨_, rowIs_below HG.out hb2 HG.out.lt, fun _ _ => rfl⟩, hr2, HG.out.lt, Touch.of_below hb2⟩
  clear hb2 hr2 HG
  go_loopw [6, 7] (fun b i wr => ∃ m : Nat, m ≤ n + 3 ∧ b = .bool true ∧ i = .int .i64 m ∧ Hid (POver w wr g n m X)) (fun _ i _ => n + 3 - (intOf i).toNat)
  case atStart => exact ⟨0, Nat.zero_le _, rfl, rfl, HS⟩
  case round =>
    obtain ⟨m, hm, rfl, rfl, hinv⟩ := hrel
    clear HS
    by_cases hlt : m < n + 3
    · obtain ⟨f, hf, hfe⟩ := hinv.out.row
      have hc : ∀ r, r < 8 → wr.cell? ⟨g, m * 8 + r, none⟩ = some (patCell (lentP X n m) r) := fun r hr => by
        rw [hf.cell (by omega), hfe _ (by omega), patsCell_at _ _ _ hr]
      have hd : ∀ r, r < 8 → wr.cell? ⟨w.heap.size, m * 8 + r, none⟩ = some (patCell (lentP X n m) r) := fun r hr => by
        rw [hinv.out.want.cell (by omega), patsCell_at _ _ _ hr]
      have hfz := hf.frozen
      have hgn := hinv.out.ne
      generalize lentP X n m = x at *
      have c0 : wr.cell? ⟨g, m * 8, none⟩ = some (.int .i64 x.kind) := hc 0 (by omega)
      have c1 : wr.cell? ⟨g, m * 8 + 1, none⟩ = some (.int .i64 x.id) := hc 1 (by omega)
      have c2 : wr.cell? ⟨g, m * 8 + 2, none⟩ = some (.int .i64 x.par) := hc 2 (by omega)
      have c3 : wr.cell? ⟨g, m * 8 + 3, none⟩ = some (.int .i64 x.bef) := hc 3 (by omega)
      have c4 : wr.cell? ⟨g, m * 8 + 4, none⟩ = some (.int .i64 x.key) := hc 4 (by omega)
      have c5 : wr.cell? ⟨g, m * 8 + 5, none⟩ = some (.string x.tag) := hc 5 (by omega)
      have c6 : wr.cell? ⟨g, m * 8 + 6, none⟩ = some (.string x.name) := hc 6 (by omega)
      have c7 : wr.cell? ⟨g, m * 8 + 7, none⟩ = some (.string x.text) := hc 7 (by omega)
      have d0 : wr.cell? ⟨w.heap.size, m * 8, none⟩ = some (.int .i64 x.kind) := hd 0 (by omega)
      have d1 : wr.cell? ⟨w.heap.size, m * 8 + 1, none⟩ = some (.int .i64 x.id) := hd 1 (by omega)
      have d2 : wr.cell? ⟨w.heap.size, m * 8 + 2, none⟩ = some (.int .i64 x.par) := hd 2 (by omega)
      have d3 : wr.cell? ⟨w.heap.size, m * 8 + 3, none⟩ = some (.int .i64 x.bef) := hd 3 (by omega)
      have d4 : wr.cell? ⟨w.heap.size, m * 8 + 4, none⟩ = some (.int .i64 x.key) := hd 4 (by omega)
      have d5 : wr.cell? ⟨w.heap.size, m * 8 + 5, none⟩ = some (.string x.tag) := hd 5 (by omega)
      have d6 : wr.cell? ⟨w.heap.size, m * 8 + 6, none⟩ = some (.string x.name) := hd 6 (by omega)
      have d7 : wr.cell? ⟨w.heap.size, m * 8 + 7, none⟩ = some (.string x.text) := hd 7 (by omega)
      have f0 := hfz (m * 8)
      have f1 := hfz (m * 8 + 1)
      have f2 := hfz (m * 8 + 2)
      have f3 := hfz (m * 8 + 3)
      have f4 := hfz (m * 8 + 4)
      have f5 := hfz (m * 8 + 5)
      have f6 := hfz (m * 8 + 6)
      have f7 := hfz (m * 8 + 7)
      have i1 : (0 : Int) ≤ (m : Int) := by omega
      have i2 : (m : Int) < ((n + 3 : Nat) : Int) := by omega
      have i3 : (m : Int) < (n : Int) + 3 := by omega
      have HF := hide hf
      have HFe := hide hfe
      clear hc hd hfz hf hfe
      go_wp2_with fail
      go_big_quiet (fail)
      go_wp2_with fail
      rename_i nq
      have hN := (((((((((hinv.out.next.drewN nq).set (j := m * 8) (by omega) (.int .i64 0)).set (j := m * 8 + 1) (by omega) (.int .i64 0)).set (j := m * 8 + 2) (by omega) (.int .i64 0)).set (j := m * 8 + 3) (by omega) (.int .i64 0)).set (j := m * 8 + 4) (by omega) (.int .i64 0)).set (j := m * 8 + 5) (by omega) (.string ⟨#[111, 118, 101, 114]⟩)).set (j := m * 8 + 6) (by omega) (.string ⟨#[]⟩)).set (j := m * 8 + 7) (by omega) (.string ⟨#[]⟩))
      go_roundw
      case rel => exact ⟨m + 1, by omega, rfl, by go_num, hide hN⟩
      case measure => simp [intOf]; omega
    · go_wp2_with fail
      go_ret
      exact ⟨rfl, hinv.out.touch⟩
end Go.Proofs.YtobgcaemnpkbmaaGreat
namespace Go.Proofs.YtobgcaemnpkbmaaGreat
open Go.RowKit
theorem intsInfo : (Tryz.prog.info? 69).map (fun i => (i.zero, i.size, i.bytes)) = some (some (.slice none 0 0), 1, 24) := by kernel_rfl
def numPat (m : Int) : Nat → Value := fun _ => .int .i64 m
theorem numPat_one (m : Int) (r : Nat) : (numPat m r).oneCell' = true := rfl
def numMark (i : Nat) : Int := -1000 - (i : Int) / 4
structure NumsAt (S : Nat → Prop) (w : World) (v : Value) (E : List Value) : Prop where
  row : w.ownsRow 0 69 1 v E.length E
  each : ∀ i, (hi : i < E.length) → Marked S (numPat (numMark i)) 1 w E[i]
  apart : ∀ b, v.ownBlock = some b → ¬ S b
theorem Marked.block {S S' : Nat → Prop} {pat : Nat → Value} {size : Nat} {w w' : World} {v : Value} (h : Marked S pat size w v) (hb : ∀ b, b < w.heap.size → S b → w'.heap[b]? = w.heap[b]? ∧ S' b) (hs : w.heap.size ≤ w'.heap.size) : Marked S' pat size w' v := by
  obtain ⟨ao, n, c, e, hn, ho, hc⟩ := h
  refine ⟨ao, n, c, e, hn, fun ad e => ⟨(hb _ (ho ad e).2 (ho ad e).1).2, Nat.lt_of_lt_of_le (ho ad e).2 hs⟩, fun j hj => ?_⟩
  obtain ⟨b, e1, e2⟩ := hc j hj
  have hx := ho _ e1
  exact ⟨b, e1, (World.cell?_of_block (w := w) (a := ⟨b, j, none⟩) (hb b hx.2 hx.1).1).trans e2⟩
theorem four {P : Value → Prop} {a b c d : Value} (ha : P a) (hb : P b) (hc : P c) (hd : P d) : ∀ j, (hj : j < [a, b, c, d].length) → P ([a, b, c, d][j]) := by
  intro j hj
  match j, hj with
  | 0, _ => exact ha
  | 1, _ => exact hb
  | 2, _ => exact hc
  | 3, _ => exact hd
def overTo (m : Int) (xs : List Value) (i : Nat) : List Value := marks (numPat m) 1 i ++ xs.drop i
theorem overTo_zero (m : Int) (xs : List Value) : overTo m xs 0 = xs := by unfold overTo marks; simp
theorem overTo_all (m : Int) (xs : List Value) : overTo m xs xs.length = marks (numPat m) 1 xs.length := by unfold overTo; simp
theorem overTo_set (m : Int) (xs : List Value) (i : Nat) (hi : i < xs.length) : (overTo m xs i).set i (.int .i64 m) = overTo m xs (i + 1) := by
  unfold overTo
  rw [List.set_append_right _ _ (by rw [marks_length]; omega), marks_length, Nat.mul_one, Nat.sub_self, List.drop_eq_getElem_cons hi, List.set_cons_zero, ← marks_app, List.append_assoc]
  rfl
theorem size_alloc' (w : World) (o : Obj) : (w.alloc o).heap.size = w.heap.size + 1 := by simp
theorem far_app {w w' : World} {O : Obj} {l l' : Value} (hg : Hid (Grew (w.alloc O) w' l l')) {b : Nat} (hb : b < w.heap.size) (hn : some b ≠ l.ownBlock) : w'.heap[b]? = w.heap[b]? :=
  (hg.out.by.block b (by rw [size_alloc']; omega) hn).trans (Below.heap_alloc _ _ _ hb)
theorem own_app {w w' : World} {O : Obj} {l l' v : Value} {e : TypeId} {size n : Nat} {xs : List Value} (h : w.ownsRow 0 e size v n xs) (hg : Hid (Grew (w.alloc O) w' l l')) (hn : l.ownBlock = none ∨ l.ownBlock ≠ v.ownBlock) : w'.ownsRow 0 e size v n xs := by
  refine (h.alloc O).kept hg.out.by ?_
  cases hv : v.ownBlock with
  | none => exact .inl rfl
  | some b => exact .inr (fun e => by
      rcases hn with h | h
      · rw [h] at e; cases e
      · exact h (by rw [hv, e]))
theorem mk_cells1 (m : Int) (w : World) (t : TypeId) : ∀ j u, (marks (numPat m) 1 1)[j]? = some u → (w.alloc (.cells #[.int .i64 m] t)).cell? ((⟨w.heap.size, 0, none⟩ : Addr).add j) = some u :=
  fun j u hu => cells_new w #[.int .i64 m] t _ rfl j u hu
theorem mk_cells2 (m : Int) (w : World) (t : TypeId) : ∀ j u, (marks (numPat m) 1 2)[j]? = some u → (w.alloc (.cells #[.int .i64 m, .int .i64 m] t)).cell? ((⟨w.heap.size, 0, none⟩ : Addr).add j) = some u :=
  fun j u hu => cells_new w #[.int .i64 m, .int .i64 m] t _ rfl j u hu
theorem mk_cells3 (m : Int) (w : World) (t : TypeId) : ∀ j u, (marks (numPat m) 1 3)[j]? = some u → (w.alloc (.cells #[.int .i64 m, .int .i64 m, .int .i64 m] t)).cell? ((⟨w.heap.size, 0, none⟩ : Addr).add j) = some u :=
  fun j u hu => cells_new w #[.int .i64 m, .int .i64 m, .int .i64 m] t _ rfl j u hu
set_option maxRecDepth 100000 in
set_option maxHeartbeats 2000000 in
theorem keepNumbers_any (S : Nat → Prop) (bb bo : Nat) (v : Value) (E : List Value) (l : Value) (n : Nat) (xs : List Value) (w : World) (hE : E.length ≤ 17179869184) (h4 : E.length % 4 = 0) (hSlt : ∀ b, S b → b < w.heap.size) (hn : n ≤ 4294967296)
    (cb : w.cell? ⟨bb, bo, none⟩ = some v) (fb : w.frozen? ⟨bb, bo, none⟩ = false) (hN : NumsAt S w v E) (hl : w.ownsRow 0 3 1 l n xs) (hS : ¬ S bb) (hb1 : some bb ≠ v.ownBlock) (hb2 : some bb ≠ l.ownBlock) (hlv : l.ownBlock = none ∨ l.ownBlock ≠ v.ownBlock) (hlS : ∀ b, l.ownBlock = some b → ¬ S b) :
    Calls Tryz.prog 31 #[.pointer (some ⟨bb, bo, none⟩), l] w fun e w' => e = .returned (.tuple #[]) ∧
      Touch (fun b => b = bb ∨ some b = v.ownBlock ∨ some b = l.ownBlock) w w' ∧ ∃ v' E', w'.cell? ⟨bb, bo, none⟩ = some v' ∧ w'.frozen? ⟨bb, bo, none⟩ = false ∧ E'.length = E.length + 4 ∧ (∀ b, v'.ownBlock = some b → v.ownBlock = some b ∨ w.heap.size ≤ b) ∧ (∀ o, o ≠ bo → w'.cell? ⟨bb, o, none⟩ = w.cell? ⟨bb, o, none⟩ ∧ w'.frozen? ⟨bb, o, none⟩ = w.frozen? ⟨bb, o, none⟩) ∧
        NumsAt (fun b => S b ∨ some b = l.ownBlock ∨ (w.heap.size ≤ b ∧ b < w'.heap.size ∧ some b ≠ v'.ownBlock)) w' v' E' := by
  obtain ⟨i0, hi, hz0, hz1, hz2⟩ := info_parts intInfo
  obtain ⟨j0, hj, hy0, hy1, hy2⟩ := info_parts intsInfo
  obtain ⟨ao, cp, rfl⟩ := own_shape hN.row
  obtain ⟨lo, lc, rfl⟩ := own_shape hl
  have lbb := block_lt_of_cell cb
  have HN := hide hN
  have HL := hide hl
  clear hN hl
  go_enter Tryz.func31, Tryz.ntmps31
  go_wp2_with fail
  have HMk : Hid (-1000 - (E.length : Int) / 4 = numMark E.length) := rfl
  have hmk1 : (-1000 : Int) - (E.length : Int) / 4 ≤ 0 := by omega
  have hmk2 : (-9000000000000 : Int) ≤ -1000 - (E.length : Int) / 4 := by omega
  generalize hmk : (-1000 - (E.length : Int) / 4) = mk at *
  clear hmk
  go_loopw [5] (fun i wr => ∃ k : Nat, k ≤ n ∧ i = .int .i64 k ∧ Hid (wr.ownsRow 0 3 1 (.slice lo n lc) n (overTo mk xs k)) ∧ Hid (Touch (fun b => some b = Value.ownBlock (.slice lo n lc)) w wr)) (fun i _ => n - (intOf i).toNat)
  case atStart => exact ⟨0, Nat.zero_le _, rfl, by rw [overTo_zero]; exact HL, hide (Touch.of_below (Below.refl _ _))⟩
  case round =>
    obtain ⟨k, hk, rfl, hown, ht⟩ := hrel
    have hxl : xs.length = n := by have := HL.out.1; omega
    by_cases hlt : k < n
    · obtain ⟨g, rfl⟩ : ∃ g, lo = some ⟨g, 0, none⟩ := by
        rcases HL.out.2 with ⟨_, e⟩ | ⟨g, cap, cur, e, _⟩
        · omega
        · simp only [Value.slice.injEq] at e; exact ⟨g, e.1⟩
      obtain ⟨u, hu⟩ : ∃ u, wr.cell? ⟨g, k, none⟩ = some u := by
        rw [hown.out.cellAt k (by omega)]
        exact ⟨_, List.getElem?_eq_getElem (by have := hown.out.1; omega)⟩
      have hf := hown.out.frozenAt k
      have HS := hide (hown.out.stored k (.int .i64 mk)).1
      rw [overTo_set mk xs k (by omega)] at HS
      have HT := hide (ht.out.set (a := ⟨g, k, none⟩) (.inl rfl) (.int .i64 mk))
      clear hown ht
      go_wp2_with fail
      go_roundw
      case rel => exact ⟨k + 1, by omega, by go_num, HS, HT⟩
      case measure => simp [intOf]; omega
    · have hkn : k = n := by omega
      have HO : Hid (wr.ownsRow 0 3 1 (.slice lo n lc) n (marks (numPat mk) 1 n)) := by
        have := hown.out
        rw [hkn, ← hxl, overTo_all, hxl] at this
        exact hide this
      clear hown hkn
      have hws := ht.out.size
      have hblk : ∀ b, b < w.heap.size → some b ≠ Value.ownBlock (.slice lo n lc) → wr.heap[b]? = w.heap[b]? := fun b hb hn => ht.out.block b hb hn
      have HV : Hid (wr.ownsRow 0 69 1 (.slice ao E.length cp) E.length E) := hide (by
        refine HN.out.row.kept (row := Value.ownBlock (.slice lo n lc)) ⟨ht.out.os, ht.out.tape, ht.out.output, hws, fun b hb hn => hblk b hb hn⟩ ?_
        cases hv : Value.ownBlock (.slice ao E.length cp) with
        | none => exact .inl rfl
        | some b => exact .inr (fun e => by
            rcases hlv with h | h
            · rw [h] at e; cases e
            · exact h (by rw [hv, e])))
      have cbr : wr.cell? ⟨bb, bo, none⟩ = some (.slice ao E.length cp) := (World.cell?_of_block (w := w) (a := ⟨bb, bo, none⟩) (hblk bb lbb hb2)).trans cb
      have fbr : wr.frozen? ⟨bb, bo, none⟩ = false := (World.frozen?_of_block (w := w) (a := ⟨bb, bo, none⟩) (hblk bb lbb hb2)).trans fb
      have HBlk := hide hblk
      clear hblk cb fb
      go_wp2_with (first | (at_builtin; refine wpList_app_mark _ rfl (.tmp 26) (.tmp 28) 69 rfl 3 i0 _ 1 8 Tryz.underlying69 hi hz0 hz1 hz2 rfl (numPat mk) (numPat_one mk) (.slice lo n lc) n _ rfl ((unhide HO).alloc _) ⟨wr.heap.size, 0, none⟩ 1 1 rfl (by omega) (mk_cells1 mk _ _) (by omega) (by omega) ?_; intro q1 w1 ho1 hl1 hg1 hk1; obtain ⟨a1, c1, rfl⟩ := own_shape (unhide ho1); have hs1 := (unhide hg1).size; rw [size_alloc'] at hs1) | (at_builtin; refine wpList_app_mark _ rfl (.tmp 30) (.tmp 33) 69 rfl 3 i0 _ 1 8 Tryz.underlying69 hi hz0 hz1 hz2 rfl (numPat mk) (numPat_one mk) (.slice lo n lc) n _ rfl ((unhide hl1).alloc _) ⟨w1.heap.size, 0, none⟩ 2 2 rfl (by omega) (mk_cells2 mk _ _) (by omega) (by omega) ?_; intro q2 w2 ho2 hl2 hg2 hk2; obtain ⟨a2, c2, rfl⟩ := own_shape (unhide ho2); have hs2 := (unhide hg2).size; rw [size_alloc'] at hs2) | (at_builtin; refine wpList_app_mark _ rfl (.tmp 35) (.tmp 39) 69 rfl 3 i0 _ 1 8 Tryz.underlying69 hi hz0 hz1 hz2 rfl (numPat mk) (numPat_one mk) (.slice lo n lc) n _ rfl ((unhide hl2).alloc _) ⟨w2.heap.size, 0, none⟩ 3 3 rfl (by omega) (mk_cells3 mk _ _) (by omega) (by omega) ?_; intro q3 w3 ho3 hl3 hg3 hk3; obtain ⟨a3, c3, rfl⟩ := own_shape (unhide ho3); have hs3 := (unhide hg3).size; rw [size_alloc'] at hs3; have hq3 : Hid (w3.heap[bb]? = wr.heap[bb]?) := hide ((far_app hg3 (by omega) hb2).trans ((far_app hg2 (by omega) hb2).trans (far_app hg1 (by omega) hb2))); have cb3 := (World.cell?_of_block (w := wr) (a := ⟨bb, bo, none⟩) (unhide hq3)).trans cbr; have fb3 := (World.frozen?_of_block (w := wr) (a := ⟨bb, bo, none⟩) (unhide hq3)).trans fbr; have HV3 := hide (own_app (own_app (own_app (unhide HV) hg1 hlv) hg2 hlv) hg3 hlv)) | (at_builtin; refine wpList_app _ rfl (.tmp 45) (.tmp 50) 36 rfl 0 69 j0 _ 1 24 Tryz.underlying36 hj hy0 hy1 hy2 rfl (.slice ao E.length cp) E.length E rfl ((unhide HV3).alloc _) (some ⟨w3.heap.size, 0, none⟩) 4 4 [.slice lo n lc, .slice a1 (n + 1) c1, .slice a2 (n + 2) c2, .slice a3 (n + 3) c3] rfl (by simp) rfl (cells_new _ _ _) (by simp [Value.oneCell']) (by omega) (by omega) (Nat.zero_le _) ?_; intro q4 w4 ho4 hg4 _; obtain ⟨a4, c4, rfl⟩ := own_shape (unhide ho4); have hs4 := (unhide hg4).size; rw [size_alloc'] at hs4; have hq4 : Hid (w4.heap[bb]? = w3.heap[bb]?) := hide (far_app hg4 (by omega) hb1); have cb4 := (World.cell?_of_block (w := w3) (a := ⟨bb, bo, none⟩) (unhide hq4)).trans cb3; have fb4 := (World.frozen?_of_block (w := w3) (a := ⟨bb, bo, none⟩) (unhide hq4)).trans fb3))
      go_end0
      have hbF : ∀ b, b < w3.heap.size → b ≠ bb → some b ≠ Value.ownBlock (.slice ao E.length cp) → (w4.setCell ⟨bb, bo, none⟩ (.slice a4 (E.length + 4) c4)).heap[b]? = w3.heap[b]? := fun b hb h1 h2 =>
        (Below.heap_setCell w4 ⟨bb, bo, none⟩ _ b h1).trans (far_app hg4 hb h2)
      have hb0 : ∀ b, b < w.heap.size → some b ≠ Value.ownBlock (.slice lo n lc) → w3.heap[b]? = w.heap[b]? := fun b hb h1 =>
        (far_app hg3 (by omega) h1).trans ((far_app hg2 (by omega) h1).trans ((far_app hg1 (by omega) h1).trans (HBlk.out b hb h1)))
      have hszF : (w4.setCell ⟨bb, bo, none⟩ (.slice a4 (E.length + 4) c4)).heap.size = w4.heap.size := size_setCell' _ _ _
      have hvlt : ∀ b, Value.ownBlock (.slice ao E.length cp) = some b → b < w.heap.size := fun b e => (HN.out.row.lt b e).2
      have hllt : ∀ b, Value.ownBlock (.slice lo n lc) = some b → b < w.heap.size := fun b e => (HL.out.lt b e).2
      have hv4 : ∀ b, Value.ownBlock (.slice a4 (E.length + 4) c4) = some b → Value.ownBlock (.slice ao E.length cp) = some b ∨ b = w3.heap.size + 1 := fun b e => by
        rcases hg4.out.at with h | h
        · exact .inl (h.symm.trans e)
        · rw [h, size_alloc'] at e; exact .inr (Option.some.inj e).symm
      have hlv' : ∀ b, Value.ownBlock (.slice lo n lc) = some b → Value.ownBlock (.slice ao E.length cp) ≠ some b := fun b e e2 => by
        rcases hlv with h | h
        · rw [h] at e; cases e
        · exact h (e.trans e2.symm)
      -- the four lists
      have Ml : Marked (fun b => some b = Value.ownBlock (.slice lo n lc) ∨ w.heap.size ≤ b) (numPat mk) 1 w3 (.slice lo n lc) := marked_of hl3.out (by omega) (fun b e => .inl e.symm)
      have Mx : Marked (fun b => some b = Value.ownBlock (.slice lo n lc) ∨ w.heap.size ≤ b) (numPat mk) 1 w3 (.slice a1 (n + 1) c1) := by
        refine Marked.keeps (w := w1) (marked_of (by rw [← marks_app]; exact ho1.out) (by omega) (fun b e => ?_)) (((Keeps.alloc _ _ _ _).trans hk2.out).trans ((Keeps.alloc _ _ _ _).trans hk3.out)) (by omega) (fun _ _ h => h)
        rcases hg1.out.at with h | h
        · exact .inl (e.symm.trans h)
        · rw [h, size_alloc'] at e; right; have := Option.some.inj e; omega
      have My : Marked (fun b => some b = Value.ownBlock (.slice lo n lc) ∨ w.heap.size ≤ b) (numPat mk) 1 w3 (.slice a2 (n + 2) c2) := by
        refine Marked.keeps (w := w2) (marked_of (by rw [← marks_app]; exact ho2.out) (by omega) (fun b e => ?_)) ((Keeps.alloc _ _ _ _).trans hk3.out) (by omega) (fun _ _ h => h)
        rcases hg2.out.at with h | h
        · exact .inl (e.symm.trans h)
        · rw [h, size_alloc'] at e; right; have := Option.some.inj e; omega
      have Mz : Marked (fun b => some b = Value.ownBlock (.slice lo n lc) ∨ w.heap.size ≤ b) (numPat mk) 1 w3 (.slice a3 (n + 3) c3) := by
        refine marked_of (by rw [← marks_app]; exact ho3.out) (by omega) (fun b e => ?_)
        rcases hg3.out.at with h | h
        · exact .inl (e.symm.trans h)
        · rw [h, size_alloc'] at e; right; have := Option.some.inj e; omega
      have toF : ∀ u, Marked (fun b => some b = Value.ownBlock (.slice lo n lc) ∨ w.heap.size ≤ b) (numPat mk) 1 w3 u → Marked (fun b => S b ∨ some b = Value.ownBlock (.slice lo n lc) ∨ (w.heap.size ≤ b ∧ b < (w4.setCell ⟨bb, bo, none⟩ (.slice a4 (E.length + 4) c4)).heap.size ∧ some b ≠ Value.ownBlock (.slice a4 (E.length + 4) c4))) (numPat mk) 1 (w4.setCell ⟨bb, bo, none⟩ (.slice a4 (E.length + 4) c4)) u := by
        intro u hu
        refine hu.block (fun b hb h => ?_) (by rw [hszF]; omega)
        rcases h with h | h
        · refine ⟨hbF b hb (fun e => hb2 (by rw [← e]; exact h)) (fun e => hlv' b h.symm e.symm), .inr (.inl h)⟩
        · refine ⟨hbF b hb (fun e => by omega) (fun e => by have := hvlt b e.symm; omega), .inr (.inr ⟨h, by rw [hszF]; omega, fun e => ?_⟩)⟩
          rcases hv4 b e.symm with e | e
          · have := hvlt b e; omega
          · omega
      refine ⟨rfl, ⟨?_, ?_, ?_, ?_, ?_⟩, .slice a4 (E.length + 4) c4, E ++ [.slice lo n lc, .slice a1 (n + 1) c1, .slice a2 (n + 2) c2, .slice a3 (n + 3) c3], ?_, ?_, ?_, ?_, ?_, ⟨?_, ?_, ?_⟩⟩
      · exact hg4.out.by.os.trans (hg3.out.by.os.trans (hg2.out.by.os.trans (hg1.out.by.os.trans ht.out.os)))
      · exact hg4.out.by.tape.trans (hg3.out.by.tape.trans (hg2.out.by.tape.trans (hg1.out.by.tape.trans ht.out.tape)))
      · exact hg4.out.by.output.trans (hg3.out.by.output.trans (hg2.out.by.output.trans (hg1.out.by.output.trans ht.out.output)))
      · rw [hszF]; omega
      · intro b hb hn
        exact (hbF b (by omega) (fun e => hn (.inl e)) (fun e => hn (.inr (.inl e)))).trans (hb0 b hb (fun e => hn (.inr (.inr e))))
      · simp [go_sem, cb4]
      · simp [go_sem, fb4]
      · rw [List.length_append]; rfl
      · exact fun b e => (hv4 b e).imp id (fun e => by omega)
      · intro o ho
        have hx : w4.heap[bb]? = w.heap[bb]? := (far_app hg4 (by omega) hb1).trans (hb0 bb lbb hb2)
        exact ⟨(World.cell?_setCell_other _ _ _ _ (fun e => ho (by cases e; rfl))).trans (World.cell?_of_block (w := w) (a := ⟨bb, o, none⟩) hx), (World.frozen?_setCell ..).trans (World.frozen?_of_block (w := w) (a := ⟨bb, o, none⟩) hx)⟩
      · rw [List.length_append]
        refine own_set ho4.out (.inr (fun e => ?_))
        rcases hv4 bb e with e | e
        · exact hb1 e.symm
        · omega
      · intro i hi
        by_cases hiE : i < E.length
        · rw [List.getElem_append_left hiE]
          refine (HN.out.each i hiE).block (fun b hb h => ⟨?_, .inl h⟩) (by rw [hszF]; omega)
          have h1 : some b ≠ Value.ownBlock (.slice lo n lc) := fun e => hlS b e.symm h
          exact (hbF b (by omega) (fun e => hS (by rw [← e]; exact h)) (fun e => HN.out.apart b e.symm h)).trans (hb0 b hb h1)
        · have hmi : numMark i = mk := by
            rw [List.length_append] at hi
            simp at hi
            rw [HMk.out]; unfold numMark; omega
          rw [List.getElem_append_right (by omega), hmi]
          exact four (toF _ Ml) (toF _ Mx) (toF _ My) (toF _ Mz) _ _
      · intro b e h
        rcases h with h | h | h
        · rcases hv4 b e with e | e
          · exact HN.out.apart b e h
          · have := hSlt b h; omega
        · rcases hv4 b e with e2 | e2
          · exact hlv' b h.symm e2
          · have := hllt b h.symm; omega
        · exact h.2.2 e.symm
end Go.Proofs.YtobgcaemnpkbmaaGreat
namespace Go.Proofs.YtobgcaemnpkbmaaGreat
open Go.RowKit
def digitS (k : Nat) : ByteArray := ({ data := #[48, 49, 50, 51, 52, 53, 54, 55, 56, 57] } : ByteArray).extract (k % 10) (k % 10 + 1)
theorem digitS_size (k : Nat) : (digitS k).size = 1 := by
  unfold digitS
  rw [ByteArray.size_extract]
  have : ({ data := #[48, 49, 50, 51, 52, 53, 54, 55, 56, 57] } : ByteArray).size = 10 := rfl
  rw [this]
  omega
def markGo : Nat → Nat → ByteArray → ByteArray
  | 0, _, t => t
  | f + 1, k, t => if 0 < k then markGo f (k / 10) (t ++ digitS k) else t
def markS (n : Nat) : ByteArray := markGo (n + 1) n ⟨#[35]⟩
set_option maxRecDepth 100000 in
set_option maxHeartbeats 400000 in
theorem mark_any (n : Nat) (w : World) (hn : n ≤ 4294967296) :
    Calls Tryz.prog 20 #[.int .i64 n] w fun e w' => e = .returned (.string (markS n)) ∧ w' = w := by
  go_enter Tryz.func20, Tryz.ntmps20
  go_wp2_with fail
  go_loopw [0, 3] (fun i s wr => ∃ (k f : Nat) (t : ByteArray), i = .int .i64 k ∧ k ≤ n ∧ s = .string t ∧ k < f ∧ t.size + k ≤ n + 1 ∧ Hid (markGo f k t = markS n) ∧ wr = w) (fun i _ _ => (intOf i).toNat)
  case atStart => exact ⟨n, n + 1, _, rfl, Nat.le_refl _, rfl, Nat.lt_succ_self _, by show 1 + n ≤ n + 1; omega, rfl, rfl⟩
  case round =>
    obtain ⟨k, f, t, rfl, hk, rfl, hf, hts, hm, rfl⟩ := hrel
    obtain ⟨f, rfl⟩ : ∃ f', f = f' + 1 := ⟨f - 1, by omega⟩
    by_cases h0 : 0 < k
    · have HM : Hid (markGo f (k / 10) (t ++ digitS k) = markS n) := by rw [← hm.out, markGo, if_pos h0]; exact rfl
      have hds : (({ data := #[48, 49, 50, 51, 52, 53, 54, 55, 56, 57] } : ByteArray).extract (k % 10) (k % 10 + 1)).size = 1 := digitS_size k
      have HDs : Hid ((t ++ digitS k).size = t.size + 1) := by rw [ByteArray.size_append, digitS_size]; exact rfl
      clear hm
      go_wp2_with fail
      go_roundw
      case rel => exact ⟨k / 10, f, _, by go_num, by omega, rfl, by omega, by have := HDs.out; unfold digitS at this; rw [this]; omega, HM, trivial⟩
      case measure => simp [intOf]; omega
    · have HM : Hid (t = markS n) := by rw [← hm.out, markGo, if_neg h0]; exact rfl
      clear hm
      go_wp2_with fail
      go_ret
      exact ⟨by rw [← HM.out]; rfl, rfl⟩
end Go.Proofs.YtobgcaemnpkbmaaGreat
