/-
  What 'whole' answers of a list that was lent and not written into.
-/
import Derived.Test.YtobgcaemnpkbmaaNodes
import Derived.Test.YtobgcaemnpkbmaaTch
namespace Go.Proofs.Ytobgcaemnpkbmaa
open Go.RowKit

/-- The blocks of a list that is lent. -/
def lentS (L : Nat → Nod) (G : Nat → Nat) (g n : Nat) : Nat → Prop := fun b => b = g ∨ ∃ i, i < n ∧ (L i).ao ≠ none ∧ b = G i

/-- The list that is lent, its nodes from kr on and its attributes' rows from ka on as they were. -/
structure Wh (M W w : World) (g : Nat) (L : Nat → Nod) (G : Nat → Nat) (n kr ka : Nat) : Prop where
  row : ∃ f, w.rowIs g 28 ((n + 3) * 5) f ∧ ∀ j, kr * 5 ≤ j → f j = nodesCell (lentN L G n) j
  rows : ∀ i, ka ≤ i → i < n → (L i).ao ≠ none → w.rowIs (G i) 58 (((L i).an + 3) * 2) (attrRow (L i).an (L i).nm (L i).vl)
  below : Below g W w
  far : Touch (lentS L G g n) M w

/-- Where the attributes' rows lie. -/
structure Gs (L : Nat → Nod) (G : Nat → Nat) (g n : Nat) : Prop where
  above : ∀ i, i < n → (L i).ao ≠ none → g < G i
  rise : ∀ i j, i < j → j < n → (L i).ao ≠ none → (L j).ao ≠ none → G i < G j

section
variable {M W w w' : World} {g : Nat} {L : Nat → Nod} {G : Nat → Nat} {n kr ka : Nat}
theorem Wh.lt (h : Wh M W w g L G n kr ka) : g < w.heap.size := by obtain ⟨f, hf, _⟩ := h.row; exact hf.lt
theorem Wh.grow (h : Wh M W w g L G n kr ka) (hb : Below w.heap.size w w') : Wh M W w' g L G n kr ka := by
  obtain ⟨f, hf, hj⟩ := h.row
  exact ⟨⟨f, rowIs_below hf hb hf.lt, hj⟩, fun i h1 h2 h3 => rowIs_below (h.rows i h1 h2 h3) hb (h.rows i h1 h2 h3).lt, h.below.trans (hb.mono (Nat.le_of_lt hf.lt)), h.far.trans (Touch.of_below hb)⟩
theorem Wh.cell (h : Wh M W w g L G n kr ka) {i r : Nat} (hi : kr ≤ i) (hn : i < n + 3) (hr : r < 5) : w.cell? ⟨g, i * 5 + r, none⟩ = some (nodCell (lentN L G n i) r) := by
  obtain ⟨f, hf, hj⟩ := h.row
  rw [hf.cell (by omega), hj _ (by omega), nodesCell_at _ _ _ hr]
theorem Wh.frozen (h : Wh M W w g L G n kr ka) (j : Nat) : w.frozen? ⟨g, j, none⟩ = false := by
  obtain ⟨f, hf, _⟩ := h.row
  exact hf.frozen j
/-- A store into the node that has been looked at. -/
theorem Wh.set (h : Wh M W w g L G n (kr + 1) ka) (hG : Gs L G g n) {j : Nat} (hj : j < (kr + 1) * 5) (v : Value) : Wh M W (w.setCell ⟨g, j, none⟩ v) g L G n (kr + 1) ka := by
  obtain ⟨f, hf, hjj⟩ := h.row
  refine ⟨⟨_, hf.set j v, fun i hi => ?_⟩, fun i h1 h2 h3 => (h.rows i h1 h2 h3).setOther (by have := hG.above i h2 h3; show G i ≠ g; omega) v, h.below.setCell (Nat.le_refl _) v, h.far.set (.inl (.inl rfl)) v⟩
  rw [if_neg (by omega)]; exact hjj i hi
theorem Wh.next (h : Wh M W w g L G n kr ka) : Wh M W w g L G n (kr + 1) ka := by
  obtain ⟨f, hf, hjj⟩ := h.row
  exact ⟨⟨f, hf, fun j hj => hjj j (by omega)⟩, h.rows, h.below, h.far⟩
theorem Wh.pass (h : Wh M W w g L G n kr ka) : Wh M W w g L G n kr (ka + 1) :=
  ⟨h.row, fun i h1 h2 h3 => h.rows i (by omega) h2 h3, h.below, h.far⟩
/-- The node that has been looked at is written over. -/
theorem Wh.over (h : Wh M W w g L G n kr ka) (hG : Gs L G g n) (v0 v1 v2 v3 v4 : Value) :
    Wh M W (((((w.setCell ⟨g, kr * 5, none⟩ v0).setCell ⟨g, kr * 5 + 1, none⟩ v1).setCell ⟨g, kr * 5 + 2, none⟩ v2).setCell ⟨g, kr * 5 + 3, none⟩ v3).setCell ⟨g, kr * 5 + 4, none⟩ v4) g L G n (kr + 1) ka :=
  ((((h.next.set hG (by omega) v0).set hG (by omega) v1).set hG (by omega) v2).set hG (by omega) v3).set hG (by omega) v4
theorem Wh.alloc (h : Wh M W w g L G n kr ka) (o : Obj) : Wh M W (w.alloc o) g L G n kr ka := h.grow ((Below.refl _ _).alloc (Nat.le_refl _) o)
end

/-- While the attributes of node k are looked at: those from m on as they were; beside them what they are held against, in block b. -/
structure Inn (M W w : World) (g : Nat) (L : Nat → Nod) (G : Nat → Nat) (n k b m : Nat) : Prop where
  own : ∃ f, w.rowIs (G k) 58 (((L k).an + 3) * 2) f ∧ ∀ j, m * 2 ≤ j → f j = attrRow (L k).an (L k).nm (L k).vl j
  other : w.rowIs b 58 (((L k).an + 3) * 2) (attrRow (L k).an (L k).nm (L k).vl)
  rest : Wh M W w g L G n k (k + 1)
  apart : b ≠ G k

section
variable {M W w w' : World} {g : Nat} {L : Nat → Nod} {G : Nat → Nat} {n k b m : Nat}
theorem Inn.grow (h : Inn M W w g L G n k b m) (hb : Below w.heap.size w w') : Inn M W w' g L G n k b m := by
  obtain ⟨f, hf, hj⟩ := h.own
  exact ⟨⟨f, rowIs_below hf hb hf.lt, hj⟩, rowIs_below h.other hb h.other.lt, h.rest.grow hb, h.apart⟩
theorem Inn.start (h : Wh M W w g L G n k k) (hk : k < n) (hn : (L k).ao ≠ none) (hb : Below w.heap.size w w') (hr : w'.rowIs w.heap.size 58 (((L k).an + 3) * 2) (attrRow (L k).an (L k).nm (L k).vl)) : Inn M W w' g L G n k w.heap.size 0 := by
  have h1 := h.rows k (Nat.le_refl _) hk hn
  exact ⟨⟨_, rowIs_below h1 hb h1.lt, fun _ _ => rfl⟩, hr, h.pass.grow hb, by have := h1.lt; omega⟩
theorem attrRow_str (an : Nat) (nm vl : Nat → ByteArray) (j : Nat) : ∃ s, attrRow an nm vl j = .string s := by
  unfold attrRow attrCell; split
  · exact ⟨_, rfl⟩
  · exact ⟨_, rfl⟩
theorem Inn.cells (h : Inn M W w g L G n k b m) {j : Nat} (h1 : m * 2 ≤ j) (h2 : j < ((L k).an + 3) * 2) : ∃ s, w.cell? ⟨G k, j, none⟩ = some (.string s) ∧ w.cell? ⟨b, j, none⟩ = some (.string s) := by
  obtain ⟨s, hs⟩ := attrRow_str (L k).an (L k).nm (L k).vl j
  obtain ⟨f, hf, hj⟩ := h.own
  exact ⟨s, by rw [hf.cell h2, hj j h1, hs], by rw [h.other.cell h2, hs]⟩
theorem Inn.frozen (h : Inn M W w g L G n k b m) (j : Nat) : w.frozen? ⟨G k, j, none⟩ = false := by
  obtain ⟨f, hf, _⟩ := h.own
  exact hf.frozen j
theorem Wh.away (h : Wh M W w g L G n k (k + 1)) (hG : Gs L G g n) (hk : k < n) (hn : (L k).ao ≠ none) (j : Nat) (v : Value) : Wh M W (w.setCell ⟨G k, j, none⟩ v) g L G n k (k + 1) := by
  obtain ⟨f, hf, hjj⟩ := h.row
  have hgk := hG.above k hk hn
  exact ⟨⟨f, hf.setOther (by show g ≠ G k; omega) v, hjj⟩, fun i h1 h2 h3 => (h.rows i h1 h2 h3).setOther (by have := hG.rise k i (by omega) h2 hn h3; show G i ≠ G k; omega) v,
    h.below.setCell (by show g ≤ G k; omega) v, h.far.set (.inl (.inr ⟨k, hk, hn, rfl⟩)) v⟩
theorem Inn.step (h : Inn M W w g L G n k b m) (hG : Gs L G g n) (hk : k < n) (hn : (L k).ao ≠ none) (v0 v1 : Value) : Inn M W ((w.setCell ⟨G k, m * 2, none⟩ v0).setCell ⟨G k, m * 2 + 1, none⟩ v1) g L G n k b (m + 1) := by
  obtain ⟨f, hf, hj⟩ := h.own
  refine ⟨⟨_, (hf.set (m * 2) v0).set (m * 2 + 1) v1, fun j hjm => ?_⟩, (h.other.setOther h.apart v0).setOther h.apart v1, (h.rest.away hG hk hn _ _).away hG hk hn _ _, h.apart⟩
  rw [if_neg (by omega), if_neg (by omega)]
  exact hj j (by omega)
end

set_option maxRecDepth 100000 in
set_option maxHeartbeats 2000000 in
theorem whole_any (W : World) (ao : Option Addr) (n c : Nat) (L : Nat → Nod) (G : Nat → Nat) (w : World) (_hn : n * 72 ≤ 140737488351232) (h : ListAt W ao n L) (hin : In L n) (hG : Gs L G W.heap.size n) (hw : Wh w W w W.heap.size L G n 0 0) :
    Calls Try.prog 10 #[.slice (some ⟨W.heap.size, 0, none⟩) (n + 3) (n + 3), .slice ao n c] w fun e w' => e = .returned (.bool true) ∧ Below W.heap.size W w' ∧ Touch (lentS L G W.heap.size n) w w' := by
  have H := hide h
  have HI := hide hin
  have HW := hide hw
  have HG := hide hG
  clear h hin hw hG
  have hnq : ∀ w a l c, (binOp .neq 26 (.slice a l c) (.slice none 0 0)).run Try.prog w = .ok (.bool a.isSome) w := fun w a l c => by
    have := run_neq_slice_nil_any (P := Try.prog) w 26 58 a l c 0 0 Try.underlying26
    simpa using this
  have heq : ∀ w a l c, (binOp .eql 26 (.slice a l c) (.slice none 0 0)).run Try.prog w = .ok (.bool a.isNone) w := fun w a l c =>
    Lib.run_eql_slice_nil (P := Try.prog) w 26 58 a l c 0 0 Try.underlying26
  go_enter Try.func10, Try.ntmps10
  go_wp2
  go_loopw [5, 6, 7, 8, 9, 10, 11] (fun ok i _ _ _ _ _ wr => ∃ k : Nat, k ≤ n + 3 ∧ i = .int .i64 k ∧ ok = .bool true ∧ Hid (Wh w W wr W.heap.size L G n k k)) (fun _ i _ _ _ _ _ _ => n + 3 - (intOf i).toNat)
  case atStart => exact ⟨0, Nat.zero_le _, rfl, rfl, HW⟩
  case round =>
    obtain ⟨k, hk, rfl, rfl, hr⟩ := hrel
    clear HW
    by_cases hlt : k < n + 3
    · have x0 := hr.out.cell (r := 0) (Nat.le_refl _) hlt (by omega)
      have x1 := fun O => (World.cell?_alloc_lt wr O ⟨W.heap.size, _, none⟩ hr.out.lt).trans (hr.out.cell (r := 1) (Nat.le_refl _) hlt (by omega))
      have x2 := fun O => (World.cell?_alloc_lt wr O ⟨W.heap.size, _, none⟩ hr.out.lt).trans (hr.out.cell (r := 2) (Nat.le_refl _) hlt (by omega))
      have x3 := fun O => (World.cell?_alloc_lt wr O ⟨W.heap.size, _, none⟩ hr.out.lt).trans (hr.out.cell (r := 3) (Nat.le_refl _) hlt (by omega))
      have x4 := fun O => (World.cell?_alloc_lt wr O ⟨W.heap.size, _, none⟩ hr.out.lt).trans (hr.out.cell (r := 4) (Nat.le_refl _) hlt (by omega))
      have y0 := hr.out.cell (r := 0) (Nat.le_refl _) hlt (by omega)
      have y1 := hr.out.cell (r := 1) (Nat.le_refl _) hlt (by omega)
      have y2 := hr.out.cell (r := 2) (Nat.le_refl _) hlt (by omega)
      have y3 := hr.out.cell (r := 3) (Nat.le_refl _) hlt (by omega)
      have y4 := hr.out.cell (r := 4) (Nat.le_refl _) hlt (by omega)
      have fz := hr.out.frozen
      have hgs := hr.out.lt
      simp only [Nat.add_zero] at x0 y0
      by_cases hkn : k < n
      · have el : lentN L G n k = newN (L k) (G k) := by unfold lentN; rw [if_pos hkn]
        simp only [el] at x0 x1 x2 x3 x4 y0 y1 y2 y3 y4
        clear el
        obtain ⟨b, o, rfl, hL⟩ := H.out (by omega)
        have hbw := hL.lt
        have hNode := (hL.node k hkn)
        have hbel := hr.out.below
        have c0 := fun O => (World.cell?_alloc_lt wr O ⟨b, _, none⟩ (Nat.lt_trans hbw hgs)).trans ((hbel.cell (p := ⟨b, _, none⟩) hbw).trans hNode.c0)
        have c1 := fun O => (World.cell?_alloc_lt wr O ⟨b, _, none⟩ (Nat.lt_trans hbw hgs)).trans ((hbel.cell (p := ⟨b, _, none⟩) hbw).trans hNode.c1)
        have c2 := fun O => (World.cell?_alloc_lt wr O ⟨b, _, none⟩ (Nat.lt_trans hbw hgs)).trans ((hbel.cell (p := ⟨b, _, none⟩) hbw).trans hNode.c2)
        have c3 := fun O => (World.cell?_alloc_lt wr O ⟨b, _, none⟩ (Nat.lt_trans hbw hgs)).trans ((hbel.cell (p := ⟨b, _, none⟩) hbw).trans hNode.c3)
        have c4 := fun O => (World.cell?_alloc_lt wr O ⟨b, _, none⟩ (Nat.lt_trans hbw hgs)).trans ((hbel.cell (p := ⟨b, _, none⟩) hbw).trans hNode.c4)
        have hbr : b ≠ wr.heap.size := by omega
        have hgr : W.heap.size ≠ wr.heap.size := by omega
        cases hao : (L k).ao with
        | none =>
          have hN := HI.out.nil k hkn hao
          simp only [newN_nil hao hN, nodCell] at x0 x1 x2 x3 x4 y0 y1 y2 y3 y4
          simp only [hao, hN] at c3
          go_wp2
          go_roundw
          case rel => exact ⟨k + 1, by omega, by go_num, rfl, hide (((hr.out.pass.over HG.out _ _ _ _ _).alloc _).alloc _)⟩
          case measure => simp [intOf]; omega
        | some ad =>
          have hne : (L k).ao ≠ none := by rw [hao]; simp
          simp only [newN_some hne, nodCell] at x0 x1 x2 x3 x4 y0 y1 y2 y3 y4
          simp only [hao] at c3
          have hfew := HI.out.few k hkn
          have HAt : Hid (∀ O O', AttrsAt ((wr.alloc O).alloc O') (some ad) (L k).an (L k).nm (L k).vl) := hide (fun O O' => by
            rw [← hao]; exact hNode.ok.at'.below ((hbel.alloc (by omega) O).alloc (by simp; omega) O'))
          clear hNode hL hbel
          go_wp2_with (go_at_call 24; refine (attrs_any (some ad) (L k).an (L k).ac (L k).nm (L k).vl _ hfew (unhide HAt _ _)).mono ?_; rintro e w5 ⟨rfl, hb5, hr5⟩)
          have HS := Inn.start ((hr.out.alloc _).alloc _) hkn hne hb5 hr5
          simp only [World.size_alloc] at HS
          replace HS := hide HS
          clear hb5 hr5 HAt hr x0 x1 x2 x3 x4 y0 y1 y2 y3 y4 c0 c1 c2 c3 c4 fz hgr hbr hgs
          generalize wr.heap.size + 1 + 1 = b5 at *
          go_loopw [5, 11] (fun ok i wx => ∃ m : Nat, m ≤ (L k).an + 3 ∧ i = .int .i64 m ∧ ok = .bool true ∧ Hid (Inn w W wx W.heap.size L G n k b5 m)) (fun _ i _ => (L k).an + 3 - (intOf i).toNat)
          case atStart => exact ⟨0, Nat.zero_le _, rfl, rfl, HS⟩
          case round =>
            obtain ⟨m, hm, rfl, rfl, hr⟩ := hrel
            clear HS
            by_cases hmt : m < (L k).an + 3
            · obtain ⟨s0, p0, q0⟩ := hr.out.cells (j := m * 2) (Nat.le_refl _) (by omega)
              obtain ⟨s1, p1, q1⟩ := hr.out.cells (j := m * 2 + 1) (by omega) (by omega)
              have fz := hr.out.frozen
              go_wp2
              go_big_quiet (fail)
              go_wp2
              go_roundw
              case rel => exact ⟨m + 1, by omega, by go_num, rfl, hide ((hr.out.grow (drewN_of (Below.refl _ _) _)).step HG.out hkn hne _ _)⟩
              case measure => simp [intOf]; omega
            · have hq := hide hr.out.rest
              clear hr
              have y0 := hq.out.cell (r := 0) (Nat.le_refl _) hlt (by omega)
              have y1 := hq.out.cell (r := 1) (Nat.le_refl _) hlt (by omega)
              have y2 := hq.out.cell (r := 2) (Nat.le_refl _) hlt (by omega)
              have y3 := hq.out.cell (r := 3) (Nat.le_refl _) hlt (by omega)
              have y4 := hq.out.cell (r := 4) (Nat.le_refl _) hlt (by omega)
              have fz := hq.out.frozen
              simp only [Nat.add_zero] at y0
              go_wp2
              go_roundw
              case rel => exact ⟨k + 1, by omega, by go_num, rfl, hide (hq.out.over HG.out _ _ _ _ _)⟩
              case measure => simp [intOf]; omega
      · have el : lentN L G n k = spareN := by unfold lentN; rw [if_neg hkn]
        simp only [el, spareN, nodCell, spareS] at x0 x1 x2 x3 x4 y0 y1 y2 y3 y4
        clear el
        go_wp2
        go_roundw
        case rel => exact ⟨k + 1, by omega, by go_num, rfl, hide (((hr.out.pass.over HG.out _ _ _ _ _).alloc _).alloc _)⟩
        case measure => simp [intOf]; omega
    · go_wp2
      go_ret
      exact ⟨rfl, hr.out.below, hr.out.far⟩

end Go.Proofs.Ytobgcaemnpkbmaa
