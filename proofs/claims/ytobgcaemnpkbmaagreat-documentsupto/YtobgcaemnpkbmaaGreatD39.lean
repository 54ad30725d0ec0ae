/- BookM -/
import Derived.Test.YtobgcaemnpkbmaaGreatD38
namespace Go.Proofs.YtobgcaemnpkbmaaGreat
open Go.RowKit
theorem own_zero {w : World} {B : Nat} {e : TypeId} {size : Nat} {v : Value} {n : Nat} {xs : List Value} (h : w.ownsRow B e size v n xs) : w.ownsRow 0 e size v n xs := by
  refine ⟨h.1, ?_⟩
  rcases h.2 with hn | ⟨g, cap, cur, e, _, rest⟩
  · exact .inl hn
  · exact .inr ⟨g, cap, cur, e, Nat.zero_le _, rest⟩
def KeepPost (S : Nat → Prop) (B bb bo : Nat) (vA v : Value) (EA E : List Value) (w w' : World) : Prop :=
  Touch (fun b => b = bb ∨ some b = vA.ownBlock ∨ some b = v.ownBlock ∨ B ≤ b) w w' ∧ ∃ vA' EA' v' E' S', w'.cell? ⟨bb, bo + 1, none⟩ = some vA' ∧ w'.frozen? ⟨bb, bo + 1, none⟩ = false ∧ w'.cell? ⟨bb, bo + 2, none⟩ = some v' ∧ w'.frozen? ⟨bb, bo + 2, none⟩ = false ∧
    EA'.length ≤ EA.length + 20 ∧ EA'.length % 4 = 0 ∧ E'.length = E.length + 4 ∧ AttsBk S' w' vA' EA' ∧ NodsBk S' w' v' E' ∧ (∀ b, S b → S' b) ∧ (∀ b, S' b → S b ∨ (B ≤ b ∧ b < w'.heap.size)) ∧
    (∀ b, vA'.ownBlock = some b → vA.ownBlock = some b ∨ w.heap.size ≤ b) ∧ (∀ b, v'.ownBlock = some b → (v.ownBlock = some b ∨ w.heap.size ≤ b) ∧ vA'.ownBlock ≠ some b) ∧
    (∀ o, o ≠ bo + 1 → o ≠ bo + 2 → w'.cell? ⟨bb, o, none⟩ = w.cell? ⟨bb, o, none⟩ ∧ w'.frozen? ⟨bb, o, none⟩ = w.frozen? ⟨bb, o, none⟩)
set_option maxRecDepth 100000 in
set_option maxHeartbeats 4000000 in
theorem keepNodes_any (S : Nat → Prop) (B bb bo : Nat) (vA v : Value) (EA E : List Value) (l : Value) (N : List TN) (w : World) (hEA : EA.length + 20 ≤ 17179869184) (h4A : EA.length % 4 = 0) (hE : E.length ≤ 17179869184) (h4 : E.length % 4 = 0)
    (hB : B ≤ w.heap.size) (hSB : ∀ b, S b → b < B) (hn : N.length ≤ 4294967296) (hfew : ∀ n, n ∈ N → n.ats.length ≤ 5) (hbB : bb < B) (hS : ¬ S bb) (hvB : ∀ b, vA.ownBlock = some b → b < B ∧ b ≠ bb) (huB : ∀ b, v.ownBlock = some b → b < B ∧ b ≠ bb ∧ vA.ownBlock ≠ some b)
    (ca : w.cell? ⟨bb, bo + 1, none⟩ = some vA) (fa : w.frozen? ⟨bb, bo + 1, none⟩ = false) (hA : AttsBk S w vA EA)
    (cb : w.cell? ⟨bb, bo + 2, none⟩ = some v) (fb : w.frozen? ⟨bb, bo + 2, none⟩ = false) (hN : NodsBk S w v E) (hl : TellAt B w l N) :
    Calls Tryz.prog 28 #[.pointer (some ⟨bb, bo, none⟩), l] w fun e w' => e = .returned (.tuple #[]) ∧ KeepPost S B bb bo vA v EA E w w' := by
  obtain ⟨i0, hi, hz0, hz1, hz2⟩ := info_parts nodeInfo'
  obtain ⟨j0, hj, hy0, hy1, hy2⟩ := info_parts nodsInfo
  obtain ⟨ao, cp, rfl⟩ := own_shape hN.row
  obtain ⟨lo, lc, rfl⟩ := own_shape hl.row
  have HN := hide hN
  have HL := hide hl
  have HA := hide hA
  have hlB : ∀ b, Value.ownBlock (.slice lo N.length lc) = some b → B ≤ b ∧ b < w.heap.size := fun b e => hl.row.lt b e
  have hNl : ∀ n, n ∈ N → ∀ b, n.av.ownBlock = some b → Value.ownBlock (.slice lo N.length lc) ≠ some b ∧ b < w.heap.size := fun n hm b e => ⟨fun e2 => by
    rcases (hl.node n hm).ne with h | h
    · rw [h] at e; cases e
    · exact h (e.trans e2.symm), ((hl.node n hm).row.lt b e).2⟩
  have HLB := hide hlB
  have HNl := hide hNl
  have HFw := hide hfew
  have HvB := hide hvB
  have HuB := hide huB
  have HSB := hide hSB
  have Hca := hide ca
  have Hfa := hide fa
  have Hcb := hide cb
  have Hfb := hide fb
  clear hN hl hA hlB hNl hfew hvB huB hSB
  go_enter Tryz.func28, Tryz.ntmps28
  go_wp2_with fail
  have HMk : Hid (-1000 - (E.length : Int) / 4 = numMark E.length) := rfl
  have hmk1 : (-1000 : Int) - (E.length : Int) / 4 ≤ 0 := by omega
  have hmk2 : (-9000000000000 : Int) ≤ -1000 - (E.length : Int) / 4 := by omega
  generalize hmk : (-1000 - (E.length : Int) / 4) = mk at *
  clear hmk
  generalize hw0 : w.alloc (.cells #[.int .i64 0, .string ⟨#[]⟩, .int .i64 mk, .slice none 0 0, .string ⟨#[]⟩] 33) = w0
  have hb0 : Below w.heap.size w w0 := by rw [← hw0]; exact (Below.refl _ _).alloc (Nat.le_refl _) _
  have hs0 : w0.heap.size = w.heap.size + 1 := by rw [← hw0]; simp
  have x0 : w0.cell? ⟨w.heap.size, 0, none⟩ = some (.int .i64 0) := by rw [← hw0]; simp [go_sem]
  have x1 : w0.cell? ⟨w.heap.size, 1, none⟩ = some (.string ⟨#[]⟩) := by rw [← hw0]; simp [go_sem]
  have x2 : w0.cell? ⟨w.heap.size, 2, none⟩ = some (.int .i64 mk) := by rw [← hw0]; simp [go_sem]
  have x3 : w0.cell? ⟨w.heap.size, 3, none⟩ = some (.slice none 0 0) := by rw [← hw0]; simp [go_sem]
  have x4 : w0.cell? ⟨w.heap.size, 4, none⟩ = some (.string ⟨#[]⟩) := by rw [← hw0]; simp [go_sem]
  have HL0 := hide (own_zero (ownsRow_below HL.out.row hb0))
  have HK0 : Hid (KeptTo S B w bb bo vA EA (.slice lo N.length lc) N 0 0 w0 S vA EA) := hide ⟨Nat.zero_le _, (hb0.cell (p := ⟨bb, bo + 1, none⟩) (by show bb < _; omega)).trans Hca.out, (hb0.frozen (p := ⟨bb, bo + 1, none⟩) (by show bb < _; omega)).trans Hfa.out, by omega,
    ⟨ownsRow_below HA.out.row hb0, fun i hi => (HA.out.each i hi).block (fun b hb h => ⟨hb0.block b hb, h⟩) hb0.size, HA.out.apart⟩, fun b h => .inl h, fun b e h => by have := HLB.out b e; have := HSB.out b h; omega, fun h => by have := HSB.out _ h; omega, fun b e => .inl e,
    fun j hj _ => ⟨ownsRow_below (HL.out.node N[j] (List.getElem_mem hj)).row hb0, fun b e h => by have := ((HL.out.node N[j] (List.getElem_mem hj)).row.lt b e).1; have := HSB.out b h; omega⟩,
    fun o _ => ⟨hb0.cell (p := ⟨bb, o, none⟩) (by show bb < _; omega), hb0.frozen (p := ⟨bb, o, none⟩) (by show bb < _; omega)⟩, Touch.of_below hb0, by omega⟩
  clear hw0 hb0 hs0 ca fa cb fb
  go_loopw [5, 6] (fun many i wr => ∃ (k m : Nat) (SA : Nat → Prop) (vA' : Value) (EA' : List Value), k ≤ N.length ∧ m ≤ 5 ∧ many = .int .i64 m ∧ i = .int .i64 k ∧ Hid (wr.ownsRow 0 33 5 (.slice lo N.length lc) N.length (overN mk (tellOf N) k)) ∧ wr.cell? ⟨w.heap.size, 0, none⟩ = some (.int .i64 0) ∧ wr.cell? ⟨w.heap.size, 1, none⟩ = some (.string ⟨#[]⟩) ∧ wr.cell? ⟨w.heap.size, 2, none⟩ = some (.int .i64 mk) ∧ wr.cell? ⟨w.heap.size, 3, none⟩ = some (.slice none 0 0) ∧ wr.cell? ⟨w.heap.size, 4, none⟩ = some (.string ⟨#[]⟩) ∧
    Hid (KeptTo S B w bb bo vA EA (.slice lo N.length lc) N k m wr SA vA' EA')) (fun _ i _ => N.length - (intOf i).toNat)
  case atStart => exact ⟨0, 0, S, vA, EA, Nat.zero_le _, Nat.zero_le _, rfl, rfl, by rw [overN_zero]; exact HL0, x0, x1, x2, x3, x4, HK0⟩
  case round =>
    obtain ⟨k, m, SA, vA', EA', hk, hm5, rfl, rfl, hown, y0, y1, y2, y3, y4, hK⟩ := hrel
    clear x0 x1 x2 x3 x4 HL0 HK0
    have hwr := hK.out.size
    have hxl : (tellOf N).length = N.length * 5 := tellOf_length N
    by_cases hlt : k < N.length
    · obtain ⟨g, rfl⟩ : ∃ g, lo = some ⟨g, 0, none⟩ := by
        rcases HL.out.row.2 with ⟨_, e⟩ | ⟨g, cap, cur, e, _⟩
        · omega
        · simp only [Value.slice.injEq] at e; exact ⟨g, e.1⟩
      have hgl := HLB.out g rfl
      have old : ∀ r, r < 5 → wr.cell? ⟨g, k * 5 + r, none⟩ = N[k].cells[r]? := fun r hr => by
        rw [hown.out.cellAt (k * 5 + r) (by omega), overN_get mk (tellOf N) k (k * 5 + r) (by omega)]
        exact tellOf_get N k r hlt hr
      have u0 : wr.cell? ⟨g, k * 5, none⟩ = some (.int .i64 N[k].d) := old 0 (by omega)
      have u1 : wr.cell? ⟨g, k * 5 + 1, none⟩ = some (.string N[k].tag) := old 1 (by omega)
      have u2 : wr.cell? ⟨g, k * 5 + 2, none⟩ = some (.int .i64 N[k].key) := old 2 (by omega)
      have u3 : wr.cell? ⟨g, k * 5 + 3, none⟩ = some (.slice N[k].ao N[k].an N[k].ac) := old 3 (by omega)
      have u4 : wr.cell? ⟨g, k * 5 + 4, none⟩ = some (.string N[k].text) := old 4 (by omega)
      have hf : ∀ r, wr.frozen? ⟨g, r, none⟩ = false := fun r => hown.out.frozenAt r
      have f0 := hf (k * 5)
      have f1 := hf (k * 5 + 1)
      have f2 := hf (k * 5 + 2)
      have f3 := hf (k * 5 + 3)
      have f4 := hf (k * 5 + 4)
      have hgw : w.heap.size ≠ g := by omega
      have hgw' : g ≠ w.heap.size := by omega
      have hngl : ∀ n, n ∈ N → n.av.ownBlock ≠ some g := fun n hm e => (HNl.out n hm g e).1 rfl
      have hvg : vA.ownBlock ≠ some g := fun e => by have := (HvB.out g e).1; omega
      have hbg : bb ≠ g := by omega
      have hani : (N[k].an : Int) ≤ 5 := by
        have h1 := (HL.out.node N[k] (List.getElem_mem hlt)).an
        have h2 := HFw.out N[k] (List.getElem_mem hlt)
        omega
      -- the node written over
      have HOver : Hid (∀ (wx : World) (m' : Nat) (SA' : Nat → Prop) (v2 : Value) (E2 : List Value), wx.ownsRow 0 33 5 (.slice (some ⟨g, 0, none⟩) N.length lc) N.length (overN mk (tellOf N) k) → wx.cell? ⟨w.heap.size, 0, none⟩ = some (.int .i64 0) ∧ wx.cell? ⟨w.heap.size, 1, none⟩ = some (.string ⟨#[]⟩) ∧ wx.cell? ⟨w.heap.size, 2, none⟩ = some (.int .i64 mk) ∧ wx.cell? ⟨w.heap.size, 3, none⟩ = some (.slice none 0 0) ∧ wx.cell? ⟨w.heap.size, 4, none⟩ = some (.string ⟨#[]⟩) → KeptTo S B w bb bo vA EA (.slice (some ⟨g, 0, none⟩) N.length lc) N (k + 1) m' wx SA' v2 E2 →
          ∀ wy, wy = ((((wx.setCell ⟨g, k * 5, none⟩ (.int .i64 0)).setCell ⟨g, k * 5 + 1, none⟩ (.string ⟨#[]⟩)).setCell ⟨g, k * 5 + 2, none⟩ (.int .i64 mk)).setCell ⟨g, k * 5 + 3, none⟩ (.slice none 0 0)).setCell ⟨g, k * 5 + 4, none⟩ (.string ⟨#[]⟩) →
          Hid (wy.ownsRow 0 33 5 (.slice (some ⟨g, 0, none⟩) N.length lc) N.length (overN mk (tellOf N) (k + 1))) ∧ wy.cell? ⟨w.heap.size, 0, none⟩ = some (.int .i64 0) ∧ wy.cell? ⟨w.heap.size, 1, none⟩ = some (.string ⟨#[]⟩) ∧ wy.cell? ⟨w.heap.size, 2, none⟩ = some (.int .i64 mk) ∧ wy.cell? ⟨w.heap.size, 3, none⟩ = some (.slice none 0 0) ∧ wy.cell? ⟨w.heap.size, 4, none⟩ = some (.string ⟨#[]⟩) ∧ Hid (KeptTo S B w bb bo vA EA (.slice (some ⟨g, 0, none⟩) N.length lc) N (k + 1) m' wy SA' v2 E2)) := by
        refine hide fun wx m' SA' v2 E2 ho hc hKx wy hwy => ?_
        have hblk : ∀ b, b ≠ g → wy.heap[b]? = wx.heap[b]? := fun b hb => by
          rw [hwy]
          exact (Below.heap_setCell _ _ _ _ hb).trans ((Below.heap_setCell _ _ _ _ hb).trans ((Below.heap_setCell _ _ _ _ hb).trans ((Below.heap_setCell _ _ _ _ hb).trans (Below.heap_setCell _ _ _ _ hb))))
        have hsz : wy.heap.size = wx.heap.size := by rw [hwy, size_setCell', size_setCell', size_setCell', size_setCell', size_setCell']
        have hst := (((((ho.stored (k * 5) (.int .i64 0)).1.stored (k * 5 + 1) (.string ⟨#[]⟩)).1.stored (k * 5 + 2) (.int .i64 mk)).1.stored (k * 5 + 3) (.slice none 0 0)).1.stored (k * 5 + 4) (.string ⟨#[]⟩)).1
        rw [overN_set mk (tellOf N) k (by omega), ← hwy] at hst
        have hcell : ∀ o, wy.cell? ⟨w.heap.size, o, none⟩ = wx.cell? ⟨w.heap.size, o, none⟩ := fun o => World.cell?_of_block (w := wx) (a := ⟨w.heap.size, o, none⟩) (hblk _ hgw)
        exact ⟨hide hst, (hcell 0).trans hc.1, (hcell 1).trans hc.2.1, (hcell 2).trans hc.2.2.1, (hcell 3).trans hc.2.2.2.1, (hcell 4).trans hc.2.2.2.2, hide (hKx.over g rfl hgl.1 hgl.2 hbg hvg hngl ⟨hsz, by rw [hwy]; rfl, by rw [hwy]; rfl, by rw [hwy]; rfl, hblk⟩)⟩
      have HOld := hide old
      clear old hf
      by_cases hcall : 0 < N[k].an ∧ m < 5
      · obtain ⟨hc1, hc2⟩ := hcall
        have i1 : (0 : Int) < (N[k].an : Int) := by omega
        have i2 : (m : Int) < 5 := by omega
        have hrk := hK.out.rest k hlt (Nat.le_refl _)
        have hvA'B : ∀ b, vA'.ownBlock = some b → b ≠ bb ∧ N[k].av.ownBlock ≠ some b ∧ b ≠ g ∧ b ≠ w.heap.size := fun b e => by
          rcases hK.out.own b e with e | e
          · have h1 := HvB.out b e
            exact ⟨h1.2, fun e2 => by have := (hrk.1.lt b e2).1; omega, by omega, by omega⟩
          · exact ⟨by omega, fun e2 => by have := (HNl.out N[k] (List.getElem_mem hlt) b e2).2; omega, by omega, by omega⟩
        have HCall : Hid (Calls Tryz.prog 50 #[.pointer (some ⟨bb, bo, none⟩), .slice N[k].ao N[k].an N[k].ac] wr fun e w' => e = .returned (.tuple #[]) ∧
            Touch (fun b => b = bb ∨ some b = vA'.ownBlock ∨ some b = N[k].av.ownBlock) wr w' ∧ ∃ v' E', w'.cell? ⟨bb, bo + 1, none⟩ = some v' ∧ w'.frozen? ⟨bb, bo + 1, none⟩ = false ∧ E'.length = EA'.length + 4 ∧ (∀ b, v'.ownBlock = some b → vA'.ownBlock = some b ∨ wr.heap.size ≤ b) ∧ (∀ o, o ≠ bo + 1 → w'.cell? ⟨bb, o, none⟩ = wr.cell? ⟨bb, o, none⟩ ∧ w'.frozen? ⟨bb, o, none⟩ = wr.frozen? ⟨bb, o, none⟩) ∧
              AttsBk (fun b => SA b ∨ some b = N[k].av.ownBlock ∨ (wr.heap.size ≤ b ∧ b < w'.heap.size ∧ some b ≠ v'.ownBlock)) w' v' E') := by
          refine hide (keepAttrs_any SA bb bo vA' EA' N[k].av N[k].an (attrCells N[k].ats) wr ?_ ?_ (fun b h => ?_) (by omega) hK.out.cell hK.out.froz hK.out.bk (own_zero hrk.1) (fun h => ?_) (fun e => (hvA'B bb e.symm).1 rfl) (fun e => by have := (hrk.1.lt bb e.symm).1; omega) (.inr (fun e => ?_)) hrk.2)
          · have := hK.out.len; omega
          · have := hK.out.len; omega
          · rcases hK.out.sub b h with h | h
            · have := HSB.out b h; omega
            · exact h.2
          · rcases hK.out.sub bb h with h | h
            · exact hS h
            · omega
          · cases hv : vA'.ownBlock with
            | none =>
              rw [hv] at e
              rcases hrk.1.2 with ⟨_, h0⟩ | ⟨g', cap, cur, e3, _⟩
              · omega
              · rw [e3] at e; cases e
            | some b => exact (hvA'B b hv).2.1 (e.trans hv)
        go_wp2_with (first | (go_at_call 50; refine (unhide HCall).mono ?_; rintro e w1 ⟨rfl, ht1, v2, E2, hcc, hff, hl2, hv2, hoth, hbk⟩; have HT1 := hide ht1; have HX1 := hide (KeptTo.keep (unhide hK) hlt hc2 hbB hB (fun b e => (unhide HvB b e).1) (unhide HLB) (unhide HNl) (unhide HL).far ht1 hcc hff hl2 hv2 hoth hbk); clear ht1 hcc hff hl2 hv2 hoth hbk; have hfr : ∀ b, b < wr.heap.size → b ≠ bb → vA'.ownBlock ≠ some b → N[k].av.ownBlock ≠ some b → w1.heap[b]? = wr.heap[b]? := fun b hb h1 h2 h3 => (unhide HT1).block b hb (fun e => by rcases e with e | e | e; exact h1 e; exact h2 e.symm; exact h3 e.symm); have hqg := hfr g (by omega) (Ne.symm hbg) (fun e => (hvA'B g e).2.2.1 rfl) (hngl N[k] (List.getElem_mem hlt)); have hqm := hfr w.heap.size hwr (by omega) (fun e => (hvA'B _ e).2.2.2 rfl) (fun e => by have := (unhide HNl N[k] (List.getElem_mem hlt) _ e).2; omega); have z0 := (World.cell?_of_block (w := wr) (a := ⟨w.heap.size, 0, none⟩) hqm).trans y0; have z1 := (World.cell?_of_block (w := wr) (a := ⟨w.heap.size, 1, none⟩) hqm).trans y1; have z2 := (World.cell?_of_block (w := wr) (a := ⟨w.heap.size, 2, none⟩) hqm).trans y2; have z3 := (World.cell?_of_block (w := wr) (a := ⟨w.heap.size, 3, none⟩) hqm).trans y3; have z4 := (World.cell?_of_block (w := wr) (a := ⟨w.heap.size, 4, none⟩) hqm).trans y4; have t0 := (World.cell?_of_block (w := wr) (a := ⟨g, k * 5, none⟩) hqg).trans u0; have t1 := (World.cell?_of_block (w := wr) (a := ⟨g, k * 5 + 1, none⟩) hqg).trans u1; have t2 := (World.cell?_of_block (w := wr) (a := ⟨g, k * 5 + 2, none⟩) hqg).trans u2; have t3 := (World.cell?_of_block (w := wr) (a := ⟨g, k * 5 + 3, none⟩) hqg).trans u3; have t4 := (World.cell?_of_block (w := wr) (a := ⟨g, k * 5 + 4, none⟩) hqg).trans u4; have e0 := (World.frozen?_of_block (w := wr) (a := ⟨g, k * 5, none⟩) hqg).trans f0; have e1 := (World.frozen?_of_block (w := wr) (a := ⟨g, k * 5 + 1, none⟩) hqg).trans f1; have e2 := (World.frozen?_of_block (w := wr) (a := ⟨g, k * 5 + 2, none⟩) hqg).trans f2; have e3 := (World.frozen?_of_block (w := wr) (a := ⟨g, k * 5 + 3, none⟩) hqg).trans f3; have e4 := (World.frozen?_of_block (w := wr) (a := ⟨g, k * 5 + 4, none⟩) hqg).trans f4; have HQg := hide hqg; clear hfr hqg hqm))
        go_roundw
        case rel =>
          obtain ⟨SA', hX⟩ := HX1.out
          have := HOver.out w1 (m + 1) SA' v2 E2 (own_block hown.out (fun b e => by cases e; exact HQg.out)) ⟨z0, z1, z2, z3, z4⟩ hX _ rfl
          exact ⟨k + 1, m + 1, SA', v2, E2, by omega, by omega, by go_num, by go_num, this⟩
        case measure => simp [intOf]; omega
      · have HX := hide (HOver.out wr m SA vA' EA' hown.out ⟨y0, y1, y2, y3, y4⟩ hK.out.next)
        by_cases hz : 0 < N[k].an
        · have i1 : (0 : Int) < (N[k].an : Int) := by omega
          have i2 : ¬ (m : Int) < 5 := by omega
          go_wp2_with fail
          go_roundw
          case rel => exact ⟨k + 1, m, SA, vA', EA', by omega, hm5, by go_num, by go_num, HX.out _ rfl⟩
          case measure => simp [intOf]; omega
        · have i1 : ¬ (0 : Int) < (N[k].an : Int) := by omega
          go_wp2_with fail
          go_roundw
          case rel => exact ⟨k + 1, m, SA, vA', EA', by omega, hm5, by go_num, by go_num, HX.out _ rfl⟩
          case measure => simp [intOf]; omega
    · have hkn : k = N.length := by omega
      have HO : Hid (wr.ownsRow 0 33 5 (.slice lo N.length lc) N.length (marks (nodPat mk) 5 N.length)) := by
        have := hown.out
        rw [hkn, overN_all mk (tellOf N) N.length hxl] at this
        exact hide this
      clear hown hkn
      have lbb : bb < w.heap.size := by omega
      have hb1 : some bb ≠ Value.ownBlock (.slice ao E.length cp) := fun e => (HuB.out bb e.symm).2.1 rfl
      have hb2 : some bb ≠ Value.ownBlock (.slice lo N.length lc) := fun e => by have := (HLB.out bb e.symm).1; omega
      have hlv : Value.ownBlock (.slice lo N.length lc) = none ∨ Value.ownBlock (.slice lo N.length lc) ≠ Value.ownBlock (.slice ao E.length cp) := by
        cases hx : Value.ownBlock (.slice lo N.length lc) with
        | none => exact .inl rfl
        | some b => exact .inr (fun e => by have h1 := HLB.out b hx; have h2 := (HuB.out b e.symm).1; omega)
      have HLn : Hid (∀ r, Value.ownBlock (.slice lo N.length lc) ≠ some (Addr.block ⟨w.heap.size, r, none⟩)) := hide fun r e => by have := (HLB.out _ e).2; simp at this
      have HV : Hid (wr.ownsRow 0 24 1 (.slice ao E.length cp) E.length E) := hide (own_block HN.out.row (fun b e => by
        have h1 := HuB.out b e
        exact hK.out.touch.block b (by omega) (fun h => by rcases h with h | h | h; exact h1.2.1 h; exact h1.2.2 h.symm; omega)))
      have cbr : wr.cell? ⟨bb, bo + 2, none⟩ = some (.slice ao E.length cp) := (hK.out.other (bo + 2) (by omega)).1.trans Hcb.out
      have fbr : wr.frozen? ⟨bb, bo + 2, none⟩ = false := (hK.out.other (bo + 2) (by omega)).2.trans Hfb.out
      go_wp2_with (first | (at_builtin; refine wpList_app_mark _ rfl (.tmp 48) (.tmp 50) 24 rfl 33 i0 _ 5 72 Tryz.underlying24 hi hz0 hz1 hz2 rfl (nodPat mk) (nodPat_one mk) (.slice lo N.length lc) N.length _ rfl ((unhide HO).alloc _) ⟨wr.heap.size, 0, none⟩ 1 1 rfl (by omega) (mn_cells1 mk _ _) (by omega) (by omega) ?_; intro q1 w1 ho1 hl1 hg1 hk1; obtain ⟨a1, c1, rfl⟩ := own_shape (unhide ho1); have hs1 := (unhide hg1).size; rw [size_alloc'] at hs1; have hx1 : Hid (w1.heap[w.heap.size]? = wr.heap[w.heap.size]?) := hide (far_app hg1 (by omega) (Ne.symm (unhide HLn 0))); have y10 := (World.cell?_of_block (w := wr) (a := ⟨w.heap.size, 0, none⟩) (unhide hx1)).trans y0; have y11 := (World.cell?_of_block (w := wr) (a := ⟨w.heap.size, 1, none⟩) (unhide hx1)).trans y1; have y12 := (World.cell?_of_block (w := wr) (a := ⟨w.heap.size, 2, none⟩) (unhide hx1)).trans y2; have y13 := (World.cell?_of_block (w := wr) (a := ⟨w.heap.size, 3, none⟩) (unhide hx1)).trans y3; have y14 := (World.cell?_of_block (w := wr) (a := ⟨w.heap.size, 4, none⟩) (unhide hx1)).trans y4) | (at_builtin; refine wpList_app_mark _ rfl (.tmp 52) (.tmp 55) 24 rfl 33 i0 _ 5 72 Tryz.underlying24 hi hz0 hz1 hz2 rfl (nodPat mk) (nodPat_one mk) (.slice lo N.length lc) N.length _ rfl ((unhide hl1).alloc _) ⟨w1.heap.size, 0, none⟩ 2 2 rfl (by omega) (mn_cells2 mk _ _) (by omega) (by omega) ?_; intro q2 w2 ho2 hl2 hg2 hk2; obtain ⟨a2, c2, rfl⟩ := own_shape (unhide ho2); have hs2 := (unhide hg2).size; rw [size_alloc'] at hs2; have hx2 : Hid (w2.heap[w.heap.size]? = w1.heap[w.heap.size]?) := hide (far_app hg2 (by omega) (Ne.symm (unhide HLn 0))); have y20 := (World.cell?_of_block (w := w1) (a := ⟨w.heap.size, 0, none⟩) (unhide hx2)).trans y10; have y21 := (World.cell?_of_block (w := w1) (a := ⟨w.heap.size, 1, none⟩) (unhide hx2)).trans y11; have y22 := (World.cell?_of_block (w := w1) (a := ⟨w.heap.size, 2, none⟩) (unhide hx2)).trans y12; have y23 := (World.cell?_of_block (w := w1) (a := ⟨w.heap.size, 3, none⟩) (unhide hx2)).trans y13; have y24 := (World.cell?_of_block (w := w1) (a := ⟨w.heap.size, 4, none⟩) (unhide hx2)).trans y14) | (at_builtin; refine wpList_app_mark _ rfl (.tmp 57) (.tmp 61) 24 rfl 33 i0 _ 5 72 Tryz.underlying24 hi hz0 hz1 hz2 rfl (nodPat mk) (nodPat_one mk) (.slice lo N.length lc) N.length _ rfl ((unhide hl2).alloc _) ⟨w2.heap.size, 0, none⟩ 3 3 rfl (by omega) (mn_cells3 mk _ _) (by omega) (by omega) ?_; intro q3 w3 ho3 hl3 hg3 hk3; obtain ⟨a3, c3, rfl⟩ := own_shape (unhide ho3); have hs3 := (unhide hg3).size; rw [size_alloc'] at hs3; have hx3 : Hid (w3.heap[w.heap.size]? = w2.heap[w.heap.size]?) := hide (far_app hg3 (by omega) (Ne.symm (unhide HLn 0))); have hq3 : Hid (w3.heap[bb]? = wr.heap[bb]?) := hide ((far_app hg3 (by omega) hb2).trans ((far_app hg2 (by omega) hb2).trans (far_app hg1 (by omega) hb2))); have cb3 := (World.cell?_of_block (w := wr) (a := ⟨bb, bo + 2, none⟩) (unhide hq3)).trans cbr; have fb3 := (World.frozen?_of_block (w := wr) (a := ⟨bb, bo + 2, none⟩) (unhide hq3)).trans fbr; have HV3 := hide (own_app (own_app (own_app (unhide HV) hg1 hlv) hg2 hlv) hg3 hlv)) | (at_builtin; refine wpList_app _ rfl (.tmp 67) (.tmp 72) 38 rfl 0 24 j0 _ 1 24 Tryz.underlying38 hj hy0 hy1 hy2 rfl (.slice ao E.length cp) E.length E rfl ((unhide HV3).alloc _) (some ⟨w3.heap.size, 0, none⟩) 4 4 [.slice lo N.length lc, .slice a1 (N.length + 1) c1, .slice a2 (N.length + 2) c2, .slice a3 (N.length + 3) c3] rfl (by simp) rfl (cells_new _ _ _) (by simp [Value.oneCell']) (by omega) (by omega) (Nat.zero_le _) ?_; intro q4 w4 ho4 hg4 _; obtain ⟨a4, c4, rfl⟩ := own_shape (unhide ho4); have hs4 := (unhide hg4).size; rw [size_alloc'] at hs4; have hq4 : Hid (w4.heap[bb]? = w3.heap[bb]?) := hide (far_app hg4 (by omega) hb1); have cb4 := (World.cell?_of_block (w := w3) (a := ⟨bb, bo + 2, none⟩) (unhide hq4)).trans cb3; have fb4 := (World.frozen?_of_block (w := w3) (a := ⟨bb, bo + 2, none⟩) (unhide hq4)).trans fb3))
      go_end0
      have hbF : ∀ b, b < w3.heap.size → b ≠ bb → some b ≠ Value.ownBlock (.slice ao E.length cp) → (w4.setCell ⟨bb, bo + 2, none⟩ (.slice a4 (E.length + 4) c4)).heap[b]? = w3.heap[b]? := fun b hb h1 h2 =>
        (Below.heap_setCell w4 ⟨bb, bo + 2, none⟩ _ b h1).trans (far_app hg4 hb h2)
      have hb0 : ∀ b, b < wr.heap.size → some b ≠ Value.ownBlock (.slice lo N.length lc) → w3.heap[b]? = wr.heap[b]? := fun b hb h1 =>
        (far_app hg3 (by omega) h1).trans ((far_app hg2 (by omega) h1).trans (far_app hg1 (by omega) h1))
      have hszF : (w4.setCell ⟨bb, bo + 2, none⟩ (.slice a4 (E.length + 4) c4)).heap.size = w4.heap.size := size_setCell' _ _ _
      have hv4 : ∀ b, Value.ownBlock (.slice a4 (E.length + 4) c4) = some b → Value.ownBlock (.slice ao E.length cp) = some b ∨ b = w3.heap.size + 1 := fun b e => by
        rcases hg4.out.at with h | h
        · exact .inl (h.symm.trans e)
        · rw [h, size_alloc'] at e; exact .inr (Option.some.inj e).symm
      have hlv' : ∀ b, Value.ownBlock (.slice lo N.length lc) = some b → Value.ownBlock (.slice ao E.length cp) ≠ some b := fun b e e2 => by
        rcases hlv with h | h
        · rw [h] at e; cases e
        · exact h (e.trans e2.symm)
      have hKs := hK.out
      have hvA' : ∀ b, vA'.ownBlock = some b → b < wr.heap.size ∧ b ≠ bb ∧ Value.ownBlock (.slice lo N.length lc) ≠ some b ∧ Value.ownBlock (.slice ao E.length cp) ≠ some b := fun b e => by
        refine ⟨(hKs.bk.row.lt b e).2, ?_⟩
        rcases hKs.own b e with e | e
        · have h1 := HvB.out b e
          exact ⟨h1.2, fun e2 => by have := (HLB.out b e2).1; omega, fun e2 => (HuB.out b e2).2.2 e⟩
        · exact ⟨by omega, fun e2 => by have := (HLB.out b e2).2; omega, fun e2 => by have := (HuB.out b e2).1; omega⟩
      -- a block of the book's own, old
      have hold : ∀ b, b < wr.heap.size → b ≠ bb → Value.ownBlock (.slice lo N.length lc) ≠ some b → Value.ownBlock (.slice ao E.length cp) ≠ some b → (w4.setCell ⟨bb, bo + 2, none⟩ (.slice a4 (E.length + 4) c4)).heap[b]? = wr.heap[b]? := fun b hb h1 h2 h3 =>
        (hbF b (by omega) h1 (fun e => h3 e.symm)).trans (hb0 b hb (fun e => h2 e.symm))
      have hSA : ∀ b, SA b → b < wr.heap.size ∧ b ≠ bb ∧ Value.ownBlock (.slice lo N.length lc) ≠ some b ∧ Value.ownBlock (.slice ao E.length cp) ≠ some b := fun b h => by
        refine ⟨?_, fun e => ?_, fun e => hKs.notl b e h, fun e => ?_⟩
        · rcases hKs.sub b h with h | h
          · have := HSB.out b h; omega
          · exact h.2
        · rcases hKs.sub b h with h | h
          · exact hS (e ▸ h)
          · omega
        · rcases hKs.sub b h with h | h
          · exact HN.out.apart b e h
          · have := (HuB.out b e).1; omega
      -- the four lists
      have Ml : Marked (fun b => some b = Value.ownBlock (.slice lo N.length lc) ∨ wr.heap.size ≤ b) (nodPat mk) 5 w3 (.slice lo N.length lc) := marked_of hl3.out (by omega) (fun b e => .inl e.symm)
      have Mx : Marked (fun b => some b = Value.ownBlock (.slice lo N.length lc) ∨ wr.heap.size ≤ b) (nodPat mk) 5 w3 (.slice a1 (N.length + 1) c1) := by
        refine Marked.keeps (w := w1) (marked_of (by rw [← marks_app]; exact ho1.out) (by omega) (fun b e => ?_)) (((Keeps.alloc _ _ _ _).trans hk2.out).trans ((Keeps.alloc _ _ _ _).trans hk3.out)) (by omega) (fun _ _ h => h)
        rcases hg1.out.at with h | h
        · exact .inl (e.symm.trans h)
        · rw [h, size_alloc'] at e; right; have := Option.some.inj e; omega
      have My : Marked (fun b => some b = Value.ownBlock (.slice lo N.length lc) ∨ wr.heap.size ≤ b) (nodPat mk) 5 w3 (.slice a2 (N.length + 2) c2) := by
        refine Marked.keeps (w := w2) (marked_of (by rw [← marks_app]; exact ho2.out) (by omega) (fun b e => ?_)) ((Keeps.alloc _ _ _ _).trans hk3.out) (by omega) (fun _ _ h => h)
        rcases hg2.out.at with h | h
        · exact .inl (e.symm.trans h)
        · rw [h, size_alloc'] at e; right; have := Option.some.inj e; omega
      have Mz : Marked (fun b => some b = Value.ownBlock (.slice lo N.length lc) ∨ wr.heap.size ≤ b) (nodPat mk) 5 w3 (.slice a3 (N.length + 3) c3) := by
        refine marked_of (by rw [← marks_app]; exact ho3.out) (by omega) (fun b e => ?_)
        rcases hg3.out.at with h | h
        · exact .inl (e.symm.trans h)
        · rw [h, size_alloc'] at e; right; have := Option.some.inj e; omega
      have toF : ∀ u, Marked (fun b => some b = Value.ownBlock (.slice lo N.length lc) ∨ wr.heap.size ≤ b) (nodPat mk) 5 w3 u → Marked (fun b => SA b ∨ S b ∨ some b = Value.ownBlock (.slice lo N.length lc) ∨ (wr.heap.size ≤ b ∧ b < (w4.setCell ⟨bb, bo + 2, none⟩ (.slice a4 (E.length + 4) c4)).heap.size ∧ some b ≠ Value.ownBlock (.slice a4 (E.length + 4) c4))) (nodPat mk) 5 (w4.setCell ⟨bb, bo + 2, none⟩ (.slice a4 (E.length + 4) c4)) u := by
        intro u hu
        refine hu.block (fun b hb h => ?_) (by rw [hszF]; omega)
        rcases h with h | h
        · refine ⟨hbF b hb (fun e => hb2 (by rw [← e]; exact h)) (fun e => hlv' b h.symm e.symm), .inr (.inr (.inl h))⟩
        · refine ⟨hbF b hb (fun e => by omega) (fun e => by have := (HuB.out b e.symm).1; omega), .inr (.inr (.inr ⟨h, by rw [hszF]; omega, fun e => ?_⟩))⟩
          rcases hv4 b e.symm with e | e
          · have := (HuB.out b e).1; omega
          · omega
      have hT := hKs.touch
      refine ⟨rfl, ⟨?_, ?_, ?_, ?_, ?_⟩, vA', EA', .slice a4 (E.length + 4) c4, E ++ [.slice lo N.length lc, .slice a1 (N.length + 1) c1, .slice a2 (N.length + 2) c2, .slice a3 (N.length + 3) c3], (fun b => SA b ∨ S b ∨ some b = Value.ownBlock (.slice lo N.length lc) ∨ (wr.heap.size ≤ b ∧ b < (w4.setCell ⟨bb, bo + 2, none⟩ (.slice a4 (E.length + 4) c4)).heap.size ∧ some b ≠ Value.ownBlock (.slice a4 (E.length + 4) c4))), ?_, ?_, ?_, ?_, ?_, ?_, ?_, ⟨?_, ?_, ?_⟩, ⟨?_, ?_, ?_⟩, fun b h => .inr (.inl h), ?_, ?_, ?_, ?_⟩
      · exact hg4.out.by.os.trans (hg3.out.by.os.trans (hg2.out.by.os.trans (hg1.out.by.os.trans hT.os)))
      · exact hg4.out.by.tape.trans (hg3.out.by.tape.trans (hg2.out.by.tape.trans (hg1.out.by.tape.trans hT.tape)))
      · exact hg4.out.by.output.trans (hg3.out.by.output.trans (hg2.out.by.output.trans (hg1.out.by.output.trans hT.output)))
      · rw [hszF]; omega
      · intro b hb hn
        refine (hold b (by omega) (fun e => hn (.inl e)) (fun e => hn (.inr (.inr (.inr (HLB.out b e).1)))) (fun e => hn (.inr (.inr (.inl e.symm))))).trans (hT.block b hb (fun h => ?_))
        rcases h with h | h | h
        · exact hn (.inl h)
        · exact hn (.inr (.inl h))
        · exact hn (.inr (.inr (.inr h)))
      · exact (World.cell?_setCell_other _ _ _ _ (fun e => by cases e)).trans ((World.cell?_of_block (w := w3) (a := ⟨bb, bo + 1, none⟩) hq4.out).trans ((World.cell?_of_block (w := wr) (a := ⟨bb, bo + 1, none⟩) hq3.out).trans hKs.cell))
      · exact (World.frozen?_setCell ..).trans ((World.frozen?_of_block (w := w3) (a := ⟨bb, bo + 1, none⟩) hq4.out).trans ((World.frozen?_of_block (w := wr) (a := ⟨bb, bo + 1, none⟩) hq3.out).trans hKs.froz))
      · simp [go_sem, cb4]
      · simp [go_sem, fb4]
      · have := hKs.len; have := hKs.many; omega
      · have := hKs.len; omega
      · rw [List.length_append]; rfl
      · exact own_block hKs.bk.row (fun b e => by have h1 := hvA' b e; exact hold b h1.1 h1.2.1 h1.2.2.1 h1.2.2.2)
      · intro i hi
        exact (hKs.bk.each i hi).block (fun b hb h => ⟨by have h1 := hSA b h; exact hold b h1.1 h1.2.1 h1.2.2.1 h1.2.2.2, .inl h⟩) (by rw [hszF]; omega)
      · intro b e h
        have h1 := hvA' b e
        rcases h with h | h | h | h
        · exact hKs.bk.apart b e h
        · rcases hKs.own b e with e2 | e2
          · exact HA.out.apart b e2 h
          · have := HSB.out b h; omega
        · exact h1.2.2.1 h.symm
        · omega
      · rw [List.length_append]
        refine own_set ho4.out (.inr (fun e => ?_))
        rcases hv4 bb e with e | e
        · exact hb1 e.symm
        · omega
      · intro i hi
        by_cases hiE : i < E.length
        · rw [List.getElem_append_left hiE]
          refine (HN.out.each i hiE).block (fun b hb h => ⟨?_, .inr (.inl h)⟩) (by rw [hszF]; omega)
          have hbB' := HSB.out b h
          have h0 : b ≠ bb := fun e => hS (e ▸ h)
          have h1 : Value.ownBlock (.slice lo N.length lc) ≠ some b := fun e => by have := (HLB.out b e).1; omega
          refine (hold b (by omega) h0 h1 (fun e => HN.out.apart b e h)).trans (hT.block b hb (fun hx => ?_))
          rcases hx with hx | hx | hx
          · exact h0 hx
          · exact HA.out.apart b hx.symm h
          · omega
        · have hmi : numMark i = mk := by
            rw [List.length_append] at hi
            simp at hi
            rw [HMk.out]; unfold numMark; omega
          rw [List.getElem_append_right (by omega), hmi]
          exact four (toF _ Ml) (toF _ Mx) (toF _ My) (toF _ Mz) _ _
      · intro b e h
        rcases h with h | h | h | h
        · have h1 := hSA b h
          rcases hv4 b e with e | e
          · exact h1.2.2.2 e
          · omega
        · rcases hv4 b e with e | e
          · exact HN.out.apart b e h
          · have := HSB.out b h; omega
        · rcases hv4 b e with e2 | e2
          · exact hlv' b h.symm e2
          · have := (HLB.out b h.symm).2; omega
        · exact h.2.2 e.symm
      · intro b h
        rcases h with h | h | h | h
        · rcases hKs.sub b h with h | h
          · exact .inl h
          · exact .inr ⟨h.1, by rw [hszF]; omega⟩
        · exact .inl h
        · have := HLB.out b h.symm; exact .inr ⟨this.1, by rw [hszF]; omega⟩
        · exact .inr ⟨by omega, h.2.1⟩
      · intro b e
        rcases hKs.own b e with e | e
        · exact .inl e
        · right; omega
      · intro b e
        rcases hv4 b e with e | e
        · exact ⟨.inl e, fun e2 => (hvA' b e2).2.2.2 e⟩
        · exact ⟨.inr (by omega), fun e2 => by have := (hvA' b e2).1; omega⟩
      · intro o h1 h2
        exact ⟨(World.cell?_setCell_other _ _ _ _ (fun e => h2 (by cases e; rfl))).trans ((World.cell?_of_block (w := w3) (a := ⟨bb, o, none⟩) hq4.out).trans ((World.cell?_of_block (w := wr) (a := ⟨bb, o, none⟩) hq3.out).trans (hKs.other o h1).1)),
          (World.frozen?_setCell ..).trans ((World.frozen?_of_block (w := w3) (a := ⟨bb, o, none⟩) hq4.out).trans ((World.frozen?_of_block (w := wr) (a := ⟨bb, o, none⟩) hq3.out).trans (hKs.other o h1).2))⟩
end Go.Proofs.YtobgcaemnpkbmaaGreat
