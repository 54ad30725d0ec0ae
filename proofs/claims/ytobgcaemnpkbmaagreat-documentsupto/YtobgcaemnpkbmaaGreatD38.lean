/- BookA BookN -/
import Derived.Test.YtobgcaemnpkbmaaGreatD37
namespace Go.Proofs.YtobgcaemnpkbmaaGreat
open Go.RowKit
theorem attsInfo : (Tryz.prog.info? 31).map (fun i => (i.zero, i.size, i.bytes)) = some (some (.slice none 0 0), 1, 24) := by kernel_rfl
def attPat (s : ByteArray) : Nat → Value := fun r => if r = 0 then .string s else .string ⟨#[]⟩
theorem attPat_one (s : ByteArray) (r : Nat) : (attPat s r).oneCell' = true := by unfold attPat; split <;> rfl
def attMark (i : Nat) : ByteArray := markS (i / 4)
structure AttsBk (S : Nat → Prop) (w : World) (v : Value) (E : List Value) : Prop where
  row : w.ownsRow 0 31 1 v E.length E
  each : ∀ i, (hi : i < E.length) → Marked S (attPat (attMark i)) 2 w E[i]
  apart : ∀ b, v.ownBlock = some b → ¬ S b
def overA (s : ByteArray) (xs : List Value) (i : Nat) : List Value := marks (attPat s) 2 i ++ xs.drop (i * 2)
theorem overA_zero (s : ByteArray) (xs : List Value) : overA s xs 0 = xs := by unfold overA marks; simp
theorem overA_all (s : ByteArray) (xs : List Value) (n : Nat) (h : xs.length = n * 2) : overA s xs n = marks (attPat s) 2 n := by unfold overA; rw [List.drop_of_length_le (by omega), List.append_nil]
theorem marks_two (s : ByteArray) (i : Nat) : marks (attPat s) 2 (i + 1) = marks (attPat s) 2 i ++ [.string s, .string ⟨#[]⟩] := by
  rw [← marks_app]; rfl
theorem overA_set (s : ByteArray) (xs : List Value) (i : Nat) (hi : i * 2 + 1 < xs.length) : ((overA s xs i).set (i * 2) (.string s)).set (i * 2 + 1) (.string ⟨#[]⟩) = overA s xs (i + 1) := by
  unfold overA
  have e1 : (marks (attPat s) 2 i).length = i * 2 := marks_length _ _ _
  rw [List.drop_eq_getElem_cons (by omega), List.drop_eq_getElem_cons (by omega), List.set_append_right _ _ (by omega), e1, Nat.sub_self, List.set_cons_zero, List.set_append_right _ _ (by omega), e1, show i * 2 + 1 - i * 2 = 1 by omega, List.set_cons_succ, List.set_cons_zero, marks_two, show (i + 1) * 2 = i * 2 + 1 + 1 by omega, List.append_assoc]
  rfl
theorem ma_cells1 (s : ByteArray) (w : World) (t : TypeId) : ∀ j u, (marks (attPat s) 2 1)[j]? = some u → (w.alloc (.cells #[.string s, .string ⟨#[]⟩] t)).cell? ((⟨w.heap.size, 0, none⟩ : Addr).add j) = some u :=
  fun j u hu => cells_new w #[.string s, .string ⟨#[]⟩] t _ rfl j u hu
theorem ma_cells2 (s : ByteArray) (w : World) (t : TypeId) : ∀ j u, (marks (attPat s) 2 2)[j]? = some u → (w.alloc (.cells #[.string s, .string ⟨#[]⟩, .string s, .string ⟨#[]⟩] t)).cell? ((⟨w.heap.size, 0, none⟩ : Addr).add j) = some u :=
  fun j u hu => cells_new w #[.string s, .string ⟨#[]⟩, .string s, .string ⟨#[]⟩] t _ rfl j u hu
theorem ma_cells3 (s : ByteArray) (w : World) (t : TypeId) : ∀ j u, (marks (attPat s) 2 3)[j]? = some u → (w.alloc (.cells #[.string s, .string ⟨#[]⟩, .string s, .string ⟨#[]⟩, .string s, .string ⟨#[]⟩] t)).cell? ((⟨w.heap.size, 0, none⟩ : Addr).add j) = some u :=
  fun j u hu => cells_new w #[.string s, .string ⟨#[]⟩, .string s, .string ⟨#[]⟩, .string s, .string ⟨#[]⟩] t _ rfl j u hu
set_option maxRecDepth 100000 in
set_option maxHeartbeats 2000000 in
theorem keepAttrs_any (S : Nat → Prop) (bb bo : Nat) (v : Value) (E : List Value) (l : Value) (n : Nat) (xs : List Value) (w : World) (hE : E.length ≤ 17179869184) (h4 : E.length % 4 = 0) (hSlt : ∀ b, S b → b < w.heap.size) (hn : n ≤ 4294967296)
    (cb : w.cell? ⟨bb, bo + 1, none⟩ = some v) (fb : w.frozen? ⟨bb, bo + 1, none⟩ = false) (hN : AttsBk S w v E) (hl : w.ownsRow 0 72 2 l n xs) (hS : ¬ S bb) (hb1 : some bb ≠ v.ownBlock) (hb2 : some bb ≠ l.ownBlock) (hlv : l.ownBlock = none ∨ l.ownBlock ≠ v.ownBlock) (hlS : ∀ b, l.ownBlock = some b → ¬ S b) :
    Calls Tryz.prog 50 #[.pointer (some ⟨bb, bo, none⟩), l] w fun e w' => e = .returned (.tuple #[]) ∧
      Touch (fun b => b = bb ∨ some b = v.ownBlock ∨ some b = l.ownBlock) w w' ∧ ∃ v' E', w'.cell? ⟨bb, bo + 1, none⟩ = some v' ∧ w'.frozen? ⟨bb, bo + 1, none⟩ = false ∧ E'.length = E.length + 4 ∧ (∀ b, v'.ownBlock = some b → v.ownBlock = some b ∨ w.heap.size ≤ b) ∧ (∀ o, o ≠ bo + 1 → w'.cell? ⟨bb, o, none⟩ = w.cell? ⟨bb, o, none⟩ ∧ w'.frozen? ⟨bb, o, none⟩ = w.frozen? ⟨bb, o, none⟩) ∧
        AttsBk (fun b => S b ∨ some b = l.ownBlock ∨ (w.heap.size ≤ b ∧ b < w'.heap.size ∧ some b ≠ v'.ownBlock)) w' v' E' := by
  obtain ⟨i0, hi, hz0, hz1, hz2⟩ := info_parts attrInfo'
  obtain ⟨j0, hj, hy0, hy1, hy2⟩ := info_parts attsInfo
  obtain ⟨ao, cp, rfl⟩ := own_shape hN.row
  obtain ⟨lo, lc, rfl⟩ := own_shape hl
  have lbb := block_lt_of_cell cb
  have HN := hide hN
  have HL := hide hl
  have hq : E.length / 4 ≤ 4294967296 := by omega
  have hM : ∀ w, Calls Tryz.prog 20 #[.int .i64 ((E.length : Int) / 4)] w fun e w' => e = .returned (.string (attMark E.length)) ∧ w = w' := fun w => by
    have := mark_any (E.length / 4) w hq
    have e : (((E.length / 4 : Nat) : Int)) = (E.length : Int) / 4 := by omega
    rw [e] at this
    exact this.mono fun _ _ h => ⟨h.1, h.2.symm⟩
  have HMark := hide hM
  clear hN hl hM
  go_enter Tryz.func50, Tryz.ntmps50
  go_wp2_with (first | (go_at_call 20; refine (unhide HMark _).mono ?_; rintro e w1 ⟨rfl, rfl⟩))
  generalize hw0 : w.alloc (.cells #[.string (attMark E.length), .string ⟨#[]⟩] 72) = w0
  have hb0 : Below w.heap.size w w0 := by rw [← hw0]; exact (Below.refl _ _).alloc (Nat.le_refl _) _
  have hs0 : w0.heap.size = w.heap.size + 1 := by rw [← hw0]; simp
  have x0 : w0.cell? ⟨w.heap.size, 0, none⟩ = some (.string (attMark E.length)) := by rw [← hw0]; simp [go_sem]
  have x1 : w0.cell? ⟨w.heap.size, 1, none⟩ = some (.string ⟨#[]⟩) := by rw [← hw0]; simp [go_sem]
  have HL0 := hide (ownsRow_below HL.out hb0)
  have HT0 : Hid (Touch (fun b => some b = Value.ownBlock (.slice lo n lc)) w w0) := hide (Touch.of_below hb0)
  have HS0 := hide hs0
  have ls0 : w.heap.size < w0.heap.size := by omega
  have HLn : Hid (∀ r, Value.ownBlock (.slice lo n lc) ≠ some (Addr.block ⟨w.heap.size, r, none⟩)) := hide fun r e => by have := (HL.out.lt _ e).2; simp at this
  clear hw0 hb0 hs0
  generalize hmk : attMark E.length = mk at *
  have HMk : Hid (mk = attMark E.length) := hide hmk.symm
  clear hmk
  go_loopw [5] (fun i wr => ∃ k : Nat, k ≤ n ∧ i = .int .i64 k ∧ Hid (wr.ownsRow 0 72 2 (.slice lo n lc) n (overA mk xs k)) ∧ wr.cell? ⟨w.heap.size, 0, none⟩ = some (.string mk) ∧ wr.cell? ⟨w.heap.size, 1, none⟩ = some (.string ⟨#[]⟩) ∧ Hid (w0.heap.size ≤ wr.heap.size) ∧ Hid (Touch (fun b => some b = Value.ownBlock (.slice lo n lc)) w wr)) (fun i _ => n - (intOf i).toNat)
  case atStart => exact ⟨0, Nat.zero_le _, rfl, by rw [overA_zero]; exact HL0, x0, x1, hide (Nat.le_refl _), HT0⟩
  case round =>
    obtain ⟨k, hk, rfl, hown, y0, y1, hsw, ht⟩ := hrel
    have hxl : xs.length = n * 2 := HL.out.1
    by_cases hlt : k < n
    · obtain ⟨g, rfl⟩ : ∃ g, lo = some ⟨g, 0, none⟩ := by
        rcases HL.out.2 with ⟨_, e⟩ | ⟨g, cap, cur, e, _⟩
        · omega
        · simp only [Value.slice.injEq] at e; exact ⟨g, e.1⟩
      obtain ⟨u, hu⟩ : ∃ u, wr.cell? ⟨g, k * 2, none⟩ = some u := by
        rw [hown.out.cellAt (k * 2) (by omega)]
        exact ⟨_, List.getElem?_eq_getElem (by have := hown.out.1; omega)⟩
      obtain ⟨u', hu'⟩ : ∃ u, wr.cell? ⟨g, k * 2 + 1, none⟩ = some u := by
        rw [hown.out.cellAt (k * 2 + 1) (by omega)]
        exact ⟨_, List.getElem?_eq_getElem (by have := hown.out.1; omega)⟩
      have hf := hown.out.frozenAt (k * 2)
      have hf' := hown.out.frozenAt (k * 2 + 1)
      have HS := hide (((hown.out.stored (k * 2) (.string mk)).1).stored (k * 2 + 1) (.string ⟨#[]⟩)).1
      rw [overA_set mk xs k (by omega)] at HS
      have HT := hide ((ht.out.set (a := ⟨g, k * 2, none⟩) (.inl rfl) (.string mk)).set (a := ⟨g, k * 2 + 1, none⟩) (.inl rfl) (.string ⟨#[]⟩))
      have hgw : w.heap.size ≠ g := fun e => (HLn.out 0) (by rw [e]; rfl)
      have hgw' : g ≠ w.heap.size := fun e => hgw e.symm
      have z0 : ((wr.setCell ⟨g, k * 2, none⟩ (.string mk)).setCell ⟨g, k * 2 + 1, none⟩ (.string ⟨#[]⟩)).cell? ⟨w.heap.size, 0, none⟩ = some (.string mk) := by
        rw [World.cell?_of_block (Below.heap_setCell _ _ _ _ hgw), World.cell?_of_block (Below.heap_setCell _ _ _ _ hgw)]; exact y0
      have z1 : ((wr.setCell ⟨g, k * 2, none⟩ (.string mk)).setCell ⟨g, k * 2 + 1, none⟩ (.string ⟨#[]⟩)).cell? ⟨w.heap.size, 1, none⟩ = some (.string ⟨#[]⟩) := by
        rw [World.cell?_of_block (Below.heap_setCell _ _ _ _ hgw), World.cell?_of_block (Below.heap_setCell _ _ _ _ hgw)]; exact y1
      clear hown ht
      go_wp2_with fail
      go_roundw
      case rel => exact ⟨k + 1, by omega, by go_num, HS, z0, z1, hide (by rw [size_setCell', size_setCell']; exact hsw.out), HT⟩
      case measure => simp [intOf]; omega
    · have hkn : k = n := by omega
      have HO : Hid (wr.ownsRow 0 72 2 (.slice lo n lc) n (marks (attPat mk) 2 n)) := by
        have := hown.out
        rw [hkn, overA_all mk xs n hxl] at this
        exact hide this
      clear hown hkn
      have hws := ht.out.size
      have hws0 := hsw.out
      have hblk : ∀ b, b < w.heap.size → some b ≠ Value.ownBlock (.slice lo n lc) → wr.heap[b]? = w.heap[b]? := fun b hb hn => ht.out.block b hb hn
      have HV : Hid (wr.ownsRow 0 31 1 (.slice ao E.length cp) E.length E) := hide (by
        refine HN.out.row.kept (row := Value.ownBlock (.slice lo n lc)) ⟨ht.out.os, ht.out.tape, ht.out.output, hws, fun b hb hn => hblk b hb hn⟩ ?_
        cases hv : Value.ownBlock (.slice ao E.length cp) with
        | none => exact .inl rfl
        | some b => exact .inr (fun e => by
            rcases hlv with h | h
            · rw [h] at e; cases e
            · exact h (by rw [hv, e])))
      have cbr : wr.cell? ⟨bb, bo + 1, none⟩ = some (.slice ao E.length cp) := (World.cell?_of_block (w := w) (a := ⟨bb, bo + 1, none⟩) (hblk bb lbb hb2)).trans cb
      have fbr : wr.frozen? ⟨bb, bo + 1, none⟩ = false := (World.frozen?_of_block (w := w) (a := ⟨bb, bo + 1, none⟩) (hblk bb lbb hb2)).trans fb
      have HBlk := hide hblk
      clear hblk cb fb
      go_wp2_with (first | (at_builtin; refine wpList_app_mark _ rfl (.tmp 27) (.tmp 29) 31 rfl 72 i0 _ 2 32 Tryz.underlying31 hi hz0 hz1 hz2 rfl (attPat mk) (attPat_one mk) (.slice lo n lc) n _ rfl ((unhide HO).alloc _) ⟨wr.heap.size, 0, none⟩ 1 1 rfl (by omega) (ma_cells1 mk _ _) (by omega) (by omega) ?_; intro q1 w1 ho1 hl1 hg1 hk1; obtain ⟨a1, c1, rfl⟩ := own_shape (unhide ho1); have hs1 := (unhide hg1).size; rw [size_alloc'] at hs1; have hx1 : Hid (w1.heap[w.heap.size]? = wr.heap[w.heap.size]?) := hide (far_app hg1 (by omega) (Ne.symm (unhide HLn 0))); have y10 := (World.cell?_of_block (w := wr) (a := ⟨w.heap.size, 0, none⟩) (unhide hx1)).trans y0; have y11 := (World.cell?_of_block (w := wr) (a := ⟨w.heap.size, 1, none⟩) (unhide hx1)).trans y1) | (at_builtin; refine wpList_app_mark _ rfl (.tmp 31) (.tmp 34) 31 rfl 72 i0 _ 2 32 Tryz.underlying31 hi hz0 hz1 hz2 rfl (attPat mk) (attPat_one mk) (.slice lo n lc) n _ rfl ((unhide hl1).alloc _) ⟨w1.heap.size, 0, none⟩ 2 2 rfl (by omega) (ma_cells2 mk _ _) (by omega) (by omega) ?_; intro q2 w2 ho2 hl2 hg2 hk2; obtain ⟨a2, c2, rfl⟩ := own_shape (unhide ho2); have hs2 := (unhide hg2).size; rw [size_alloc'] at hs2; have hx2 : Hid (w2.heap[w.heap.size]? = w1.heap[w.heap.size]?) := hide (far_app hg2 (by omega) (Ne.symm (unhide HLn 0))); have y20 := (World.cell?_of_block (w := w1) (a := ⟨w.heap.size, 0, none⟩) (unhide hx2)).trans y10; have y21 := (World.cell?_of_block (w := w1) (a := ⟨w.heap.size, 1, none⟩) (unhide hx2)).trans y11) | (at_builtin; refine wpList_app_mark _ rfl (.tmp 36) (.tmp 40) 31 rfl 72 i0 _ 2 32 Tryz.underlying31 hi hz0 hz1 hz2 rfl (attPat mk) (attPat_one mk) (.slice lo n lc) n _ rfl ((unhide hl2).alloc _) ⟨w2.heap.size, 0, none⟩ 3 3 rfl (by omega) (ma_cells3 mk _ _) (by omega) (by omega) ?_; intro q3 w3 ho3 hl3 hg3 hk3; obtain ⟨a3, c3, rfl⟩ := own_shape (unhide ho3); have hs3 := (unhide hg3).size; rw [size_alloc'] at hs3; have hq3 : Hid (w3.heap[bb]? = wr.heap[bb]?) := hide ((far_app hg3 (by omega) hb2).trans ((far_app hg2 (by omega) hb2).trans (far_app hg1 (by omega) hb2))); have cb3 := (World.cell?_of_block (w := wr) (a := ⟨bb, bo + 1, none⟩) (unhide hq3)).trans cbr; have fb3 := (World.frozen?_of_block (w := wr) (a := ⟨bb, bo + 1, none⟩) (unhide hq3)).trans fbr; have HV3 := hide (own_app (own_app (own_app (unhide HV) hg1 hlv) hg2 hlv) hg3 hlv)) | (at_builtin; refine wpList_app _ rfl (.tmp 46) (.tmp 51) 37 rfl 0 31 j0 _ 1 24 Tryz.underlying37 hj hy0 hy1 hy2 rfl (.slice ao E.length cp) E.length E rfl ((unhide HV3).alloc _) (some ⟨w3.heap.size, 0, none⟩) 4 4 [.slice lo n lc, .slice a1 (n + 1) c1, .slice a2 (n + 2) c2, .slice a3 (n + 3) c3] rfl (by simp) rfl (cells_new _ _ _) (by simp [Value.oneCell']) (by omega) (by omega) (Nat.zero_le _) ?_; intro q4 w4 ho4 hg4 _; obtain ⟨a4, c4, rfl⟩ := own_shape (unhide ho4); have hs4 := (unhide hg4).size; rw [size_alloc'] at hs4; have hq4 : Hid (w4.heap[bb]? = w3.heap[bb]?) := hide (far_app hg4 (by omega) hb1); have cb4 := (World.cell?_of_block (w := w3) (a := ⟨bb, bo + 1, none⟩) (unhide hq4)).trans cb3; have fb4 := (World.frozen?_of_block (w := w3) (a := ⟨bb, bo + 1, none⟩) (unhide hq4)).trans fb3))
      go_end0
      have hbF : ∀ b, b < w3.heap.size → b ≠ bb → some b ≠ Value.ownBlock (.slice ao E.length cp) → (w4.setCell ⟨bb, bo + 1, none⟩ (.slice a4 (E.length + 4) c4)).heap[b]? = w3.heap[b]? := fun b hb h1 h2 =>
        (Below.heap_setCell w4 ⟨bb, bo + 1, none⟩ _ b h1).trans (far_app hg4 hb h2)
      have hb0 : ∀ b, b < w.heap.size → some b ≠ Value.ownBlock (.slice lo n lc) → w3.heap[b]? = w.heap[b]? := fun b hb h1 =>
        (far_app hg3 (by omega) h1).trans ((far_app hg2 (by omega) h1).trans ((far_app hg1 (by omega) h1).trans (HBlk.out b hb h1)))
      have hszF : (w4.setCell ⟨bb, bo + 1, none⟩ (.slice a4 (E.length + 4) c4)).heap.size = w4.heap.size := size_setCell' _ _ _
      have hvlt : ∀ b, Value.ownBlock (.slice ao E.length cp) = some b → b < w.heap.size := fun b e => (HN.out.row.lt b e).2
      have hllt : ∀ b, Value.ownBlock (.slice lo n lc) = some b → b < w.heap.size := fun b e => (HL.out.lt b e).2
      have hv4 : ∀ b, Value.ownBlock (.slice a4 (E.length + 4) c4) = some b → Value.ownBlock (.slice ao E.length cp) = some b ∨ b = w3.heap.size + 1 := fun b e => by
        rcases hg4.out.at with h | h
        · exact .inl (h.symm.trans e)
        · rw [h, size_alloc'] at e; exact .inr (Option.some.inj e).symm
      have hlv' : ∀ b, Value.ownBlock (.slice lo n lc) = some b → Value.ownBlock (.slice ao E.length cp) ≠ some b := fun b e e2 => by
        rcases hlv with h | h
        · rw [h] at e; cases e
        · exact h (e.trans e2.symm)
      -- the four lists
      have Ml : Marked (fun b => some b = Value.ownBlock (.slice lo n lc) ∨ w.heap.size ≤ b) (attPat mk) 2 w3 (.slice lo n lc) := marked_of hl3.out (by omega) (fun b e => .inl e.symm)
      have Mx : Marked (fun b => some b = Value.ownBlock (.slice lo n lc) ∨ w.heap.size ≤ b) (attPat mk) 2 w3 (.slice a1 (n + 1) c1) := by
        refine Marked.keeps (w := w1) (marked_of (by rw [← marks_app]; exact ho1.out) (by omega) (fun b e => ?_)) (((Keeps.alloc _ _ _ _).trans hk2.out).trans ((Keeps.alloc _ _ _ _).trans hk3.out)) (by omega) (fun _ _ h => h)
        rcases hg1.out.at with h | h
        · exact .inl (e.symm.trans h)
        · rw [h, size_alloc'] at e; right; have := Option.some.inj e; omega
      have My : Marked (fun b => some b = Value.ownBlock (.slice lo n lc) ∨ w.heap.size ≤ b) (attPat mk) 2 w3 (.slice a2 (n + 2) c2) := by
        refine Marked.keeps (w := w2) (marked_of (by rw [← marks_app]; exact ho2.out) (by omega) (fun b e => ?_)) ((Keeps.alloc _ _ _ _).trans hk3.out) (by omega) (fun _ _ h => h)
        rcases hg2.out.at with h | h
        · exact .inl (e.symm.trans h)
        · rw [h, size_alloc'] at e; right; have := Option.some.inj e; omega
      have Mz : Marked (fun b => some b = Value.ownBlock (.slice lo n lc) ∨ w.heap.size ≤ b) (attPat mk) 2 w3 (.slice a3 (n + 3) c3) := by
        refine marked_of (by rw [← marks_app]; exact ho3.out) (by omega) (fun b e => ?_)
        rcases hg3.out.at with h | h
        · exact .inl (e.symm.trans h)
        · rw [h, size_alloc'] at e; right; have := Option.some.inj e; omega
      have toF : ∀ u, Marked (fun b => some b = Value.ownBlock (.slice lo n lc) ∨ w.heap.size ≤ b) (attPat mk) 2 w3 u → Marked (fun b => S b ∨ some b = Value.ownBlock (.slice lo n lc) ∨ (w.heap.size ≤ b ∧ b < (w4.setCell ⟨bb, bo + 1, none⟩ (.slice a4 (E.length + 4) c4)).heap.size ∧ some b ≠ Value.ownBlock (.slice a4 (E.length + 4) c4))) (attPat mk) 2 (w4.setCell ⟨bb, bo + 1, none⟩ (.slice a4 (E.length + 4) c4)) u := by
        intro u hu
        refine hu.block (fun b hb h => ?_) (by rw [hszF]; omega)
        rcases h with h | h
        · refine ⟨hbF b hb (fun e => hb2 (by rw [← e]; exact h)) (fun e => hlv' b h.symm e.symm), .inr (.inl h)⟩
        · refine ⟨hbF b hb (fun e => by omega) (fun e => by have := hvlt b e.symm; omega), .inr (.inr ⟨h, by rw [hszF]; omega, fun e => ?_⟩)⟩
          rcases hv4 b e.symm with e | e
          · have := hvlt b e; omega
          · omega
      refine ⟨rfl, ⟨?_, ?_, ?_, ?_, ?_⟩, .slice a4 (E.length + 4) c4, ?_, ?_, E ++ [.slice lo n lc, .slice a1 (n + 1) c1, .slice a2 (n + 2) c2, .slice a3 (n + 3) c3], ?_, ?_, ?_, ⟨?_, ?_, ?_⟩⟩
      · exact hg4.out.by.os.trans (hg3.out.by.os.trans (hg2.out.by.os.trans (hg1.out.by.os.trans ht.out.os)))
      · exact hg4.out.by.tape.trans (hg3.out.by.tape.trans (hg2.out.by.tape.trans (hg1.out.by.tape.trans ht.out.tape)))
      · exact hg4.out.by.output.trans (hg3.out.by.output.trans (hg2.out.by.output.trans (hg1.out.by.output.trans ht.out.output)))
      · rw [hszF]; omega
      · intro b hb hn
        exact (hbF b (by omega) (fun e => hn (.inl e)) (fun e => hn (.inr (.inl e)))).trans (hb0 b hb (fun e => hn (.inr (.inr e))))
      · simp [go_sem, cb4]
      · simp [go_sem, fb4]
      · rw [List.length_append]; rfl
      · exact fun b e => (hv4 b e).imp id (fun e => by omega)
      · intro o ho
        have hx : w4.heap[bb]? = w.heap[bb]? := (far_app hg4 (by omega) hb1).trans (hb0 bb lbb hb2)
        exact ⟨(World.cell?_setCell_other _ _ _ _ (fun e => ho (by cases e; rfl))).trans (World.cell?_of_block (w := w) (a := ⟨bb, o, none⟩) hx), (World.frozen?_setCell ..).trans (World.frozen?_of_block (w := w) (a := ⟨bb, o, none⟩) hx)⟩
      · rw [List.length_append]
        refine own_set ho4.out (.inr (fun e => ?_))
        rcases hv4 bb e with e | e
        · exact hb1 e.symm
        · omega
      · intro i hi
        by_cases hiE : i < E.length
        · rw [List.getElem_append_left hiE]
          refine (HN.out.each i hiE).block (fun b hb h => ⟨?_, .inl h⟩) (by rw [hszF]; omega)
          have h1 : some b ≠ Value.ownBlock (.slice lo n lc) := fun e => hlS b e.symm h
          exact (hbF b (by omega) (fun e => hS (by rw [← e]; exact h)) (fun e => HN.out.apart b e.symm h)).trans (hb0 b hb h1)
        · have hmi : attMark i = mk := by
            rw [List.length_append] at hi
            simp at hi
            rw [HMk.out]; unfold attMark; rw [show i / 4 = E.length / 4 by omega]
          rw [List.getElem_append_right (by omega), hmi]
          exact four (toF _ Ml) (toF _ Mx) (toF _ My) (toF _ Mz) _ _
      · intro b e h
        rcases h with h | h | h
        · rcases hv4 b e with e | e
          · exact HN.out.apart b e h
          · have := hSlt b h; omega
        · rcases hv4 b e with e2 | e2
          · exact hlv' b h.symm e2
          · have := hllt b h.symm; omega
        · exact h.2.2 e.symm
def nodPat (m : Int) : Nat → Value := fun r => match r with | 0 => .int .i64 0 | 1 => .string ⟨#[]⟩ | 2 => .int .i64 m | 3 => .slice none 0 0 | _ => .string ⟨#[]⟩
end Go.Proofs.YtobgcaemnpkbmaaGreat
namespace Go.Proofs.YtobgcaemnpkbmaaGreat
open Go.RowKit
theorem nodsInfo : (Tryz.prog.info? 24).map (fun i => (i.zero, i.size, i.bytes)) = some (some (.slice none 0 0), 1, 24) := by kernel_rfl
theorem nodPat_one (m : Int) (r : Nat) : (nodPat m r).oneCell' = true := by
  unfold nodPat
  split <;> rfl
structure NodsBk (S : Nat → Prop) (w : World) (v : Value) (E : List Value) : Prop where
  row : w.ownsRow 0 24 1 v E.length E
  each : ∀ i, (hi : i < E.length) → Marked S (nodPat (numMark i)) 5 w E[i]
  apart : ∀ b, v.ownBlock = some b → ¬ S b
def overN (m : Int) (xs : List Value) (i : Nat) : List Value := marks (nodPat m) 5 i ++ xs.drop (i * 5)
theorem overN_zero (m : Int) (xs : List Value) : overN m xs 0 = xs := by unfold overN marks; simp
theorem overN_all (m : Int) (xs : List Value) (n : Nat) (h : xs.length = n * 5) : overN m xs n = marks (nodPat m) 5 n := by unfold overN; rw [List.drop_of_length_le (by omega), List.append_nil]
theorem overN_get (m : Int) (xs : List Value) (i j : Nat) (h : i * 5 ≤ j) : (overN m xs i)[j]? = xs[j]? := by
  unfold overN
  rw [List.getElem?_append_right (by rw [marks_length]; exact h), marks_length, List.getElem?_drop, show i * 5 + (j - i * 5) = j by omega]
theorem marks_five (m : Int) (i : Nat) : marks (nodPat m) 5 (i + 1) = marks (nodPat m) 5 i ++ [.int .i64 0, .string ⟨#[]⟩, .int .i64 m, .slice none 0 0, .string ⟨#[]⟩] := by
  rw [← marks_app]; rfl
theorem overN_set (m : Int) (xs : List Value) (i : Nat) (hi : i * 5 + 4 < xs.length) :
    (((((overN m xs i).set (i * 5) (.int .i64 0)).set (i * 5 + 1) (.string ⟨#[]⟩)).set (i * 5 + 2) (.int .i64 m)).set (i * 5 + 3) (.slice none 0 0)).set (i * 5 + 4) (.string ⟨#[]⟩) = overN m xs (i + 1) := by
  unfold overN
  have e1 : (marks (nodPat m) 5 i).length = i * 5 := marks_length _ _ _
  rw [List.drop_eq_getElem_cons (by omega), List.drop_eq_getElem_cons (by omega), List.drop_eq_getElem_cons (by omega), List.drop_eq_getElem_cons (by omega), List.drop_eq_getElem_cons (by omega)]
  rw [List.set_append_right _ _ (by omega), e1, List.set_append_right _ _ (by omega), e1, List.set_append_right _ _ (by omega), e1, List.set_append_right _ _ (by omega), e1, List.set_append_right _ _ (by omega), e1]
  rw [Nat.sub_self, show i * 5 + 1 - i * 5 = 1 by omega, show i * 5 + 2 - i * 5 = 2 by omega, show i * 5 + 3 - i * 5 = 3 by omega, show i * 5 + 4 - i * 5 = 4 by omega, marks_five, List.append_assoc, show (i + 1) * 5 = i * 5 + 1 + 1 + 1 + 1 + 1 by omega]
  rfl
theorem mn_cells1 (m : Int) (w : World) (t : TypeId) : ∀ j u, (marks (nodPat m) 5 1)[j]? = some u → (w.alloc (.cells #[.int .i64 0, .string ⟨#[]⟩, .int .i64 m, .slice none 0 0, .string ⟨#[]⟩] t)).cell? ((⟨w.heap.size, 0, none⟩ : Addr).add j) = some u :=
  fun j u hu => cells_new w #[.int .i64 0, .string ⟨#[]⟩, .int .i64 m, .slice none 0 0, .string ⟨#[]⟩] t _ rfl j u hu
theorem mn_cells2 (m : Int) (w : World) (t : TypeId) : ∀ j u, (marks (nodPat m) 5 2)[j]? = some u → (w.alloc (.cells #[.int .i64 0, .string ⟨#[]⟩, .int .i64 m, .slice none 0 0, .string ⟨#[]⟩, .int .i64 0, .string ⟨#[]⟩, .int .i64 m, .slice none 0 0, .string ⟨#[]⟩] t)).cell? ((⟨w.heap.size, 0, none⟩ : Addr).add j) = some u :=
  fun j u hu => cells_new w #[.int .i64 0, .string ⟨#[]⟩, .int .i64 m, .slice none 0 0, .string ⟨#[]⟩, .int .i64 0, .string ⟨#[]⟩, .int .i64 m, .slice none 0 0, .string ⟨#[]⟩] t _ rfl j u hu
theorem mn_cells3 (m : Int) (w : World) (t : TypeId) : ∀ j u, (marks (nodPat m) 5 3)[j]? = some u → (w.alloc (.cells #[.int .i64 0, .string ⟨#[]⟩, .int .i64 m, .slice none 0 0, .string ⟨#[]⟩, .int .i64 0, .string ⟨#[]⟩, .int .i64 m, .slice none 0 0, .string ⟨#[]⟩, .int .i64 0, .string ⟨#[]⟩, .int .i64 m, .slice none 0 0, .string ⟨#[]⟩] t)).cell? ((⟨w.heap.size, 0, none⟩ : Addr).add j) = some u :=
  fun j u hu => cells_new w #[.int .i64 0, .string ⟨#[]⟩, .int .i64 m, .slice none 0 0, .string ⟨#[]⟩, .int .i64 0, .string ⟨#[]⟩, .int .i64 m, .slice none 0 0, .string ⟨#[]⟩, .int .i64 0, .string ⟨#[]⟩, .int .i64 m, .slice none 0 0, .string ⟨#[]⟩] t _ rfl j u hu
theorem own_block {w w' : World} {base : Nat} {e : TypeId} {size : Nat} {v : Value} {n : Nat} {xs : List Value} (h : w.ownsRow base e size v n xs) (hb : ∀ b, v.ownBlock = some b → w'.heap[b]? = w.heap[b]?) : w'.ownsRow base e size v n xs := by
  refine ⟨h.1, ?_⟩
  rcases h.2 with hn | ⟨g, cap, cur, rfl, hg, hgg, rest⟩
  · exact .inl hn
  · exact .inr ⟨g, cap, cur, rfl, hg, (hb g rfl).trans hgg, rest⟩
structure KeptTo (S : Nat → Prop) (B : Nat) (w : World) (bb bo : Nat) (vA : Value) (EA : List Value) (l : Value) (N : List TN) (k m : Nat) (wr : World) (SA : Nat → Prop) (vA' : Value) (EA' : List Value) : Prop where
  many : m ≤ 5
  cell : wr.cell? ⟨bb, bo + 1, none⟩ = some vA'
  froz : wr.frozen? ⟨bb, bo + 1, none⟩ = false
  len : EA'.length = EA.length + 4 * m
  bk : AttsBk SA wr vA' EA'
  sub : ∀ b, SA b → S b ∨ (B ≤ b ∧ b < wr.heap.size)
  notl : ∀ b, l.ownBlock = some b → ¬ SA b
  notm : ¬ SA w.heap.size
  own : ∀ b, vA'.ownBlock = some b → vA.ownBlock = some b ∨ w.heap.size < b
  rest : ∀ j, (hj : j < N.length) → k ≤ j → wr.ownsRow B 72 2 N[j].av N[j].an (attrCells N[j].ats) ∧ ∀ b, N[j].av.ownBlock = some b → ¬ SA b
  other : ∀ o, o ≠ bo + 1 → wr.cell? ⟨bb, o, none⟩ = w.cell? ⟨bb, o, none⟩ ∧ wr.frozen? ⟨bb, o, none⟩ = w.frozen? ⟨bb, o, none⟩
  touch : Touch (fun b => b = bb ∨ some b = vA.ownBlock ∨ B ≤ b) w wr
  size : w.heap.size < wr.heap.size
theorem KeptTo.next {S : Nat → Prop} {B : Nat} {w : World} {bb bo : Nat} {vA : Value} {EA : List Value} {l : Value} {N : List TN} {k m : Nat} {wr : World} {SA : Nat → Prop} {vA' : Value} {EA' : List Value}
    (h : KeptTo S B w bb bo vA EA l N k m wr SA vA' EA') : KeptTo S B w bb bo vA EA l N (k + 1) m wr SA vA' EA' :=
  ⟨h.many, h.cell, h.froz, h.len, h.bk, h.sub, h.notl, h.notm, h.own, fun j hj hk => h.rest j hj (by omega), h.other, h.touch, h.size⟩
theorem KeptTo.over {S : Nat → Prop} {B : Nat} {w : World} {bb bo : Nat} {vA : Value} {EA : List Value} {l : Value} {N : List TN} {k m : Nat} {wr wr' : World} {SA : Nat → Prop} {vA' : Value} {EA' : List Value}
    (h : KeptTo S B w bb bo vA EA l N k m wr SA vA' EA') (g : Nat) (hg : l.ownBlock = some g) (hB : B ≤ g) (hgw : g < w.heap.size) (hbg : bb ≠ g) (hvg : vA.ownBlock ≠ some g) (hNl : ∀ n, n ∈ N → n.av.ownBlock ≠ some g)
    (hw : wr'.heap.size = wr.heap.size ∧ wr'.os = wr.os ∧ wr'.tape = wr.tape ∧ wr'.output = wr.output ∧ ∀ b, b ≠ g → wr'.heap[b]? = wr.heap[b]?) : KeptTo S B w bb bo vA EA l N k m wr' SA vA' EA' := by
  obtain ⟨hsz, h1, h2, h3, hblk⟩ := hw
  have hgb : wr.grownBy wr' (some g) := ⟨h1, h2, h3, Nat.le_of_eq hsz.symm, fun b _ hn => hblk b (fun e => hn (by rw [e]))⟩
  refine ⟨h.many, ?_, ?_, h.len, ⟨?_, fun i hi => ?_, h.bk.apart⟩, fun b hb => by rw [hsz]; exact h.sub b hb, h.notl, h.notm, h.own, fun j hj hjk => ⟨?_, (h.rest j hj (by omega)).2⟩, fun o ho => ?_, ?_, by rw [hsz]; exact h.size⟩
  · exact (World.cell?_of_block (w := wr) (a := ⟨bb, bo + 1, none⟩) (hblk bb hbg)).trans h.cell
  · exact (World.frozen?_of_block (w := wr) (a := ⟨bb, bo + 1, none⟩) (hblk bb hbg)).trans h.froz
  · refine h.bk.row.kept hgb ?_
    cases hv : vA'.ownBlock with
    | none => exact .inl rfl
    | some b => exact .inr (fun e => by
        have e := Option.some.inj e
        subst e
        rcases h.own _ hv with e | e
        · exact hvg e
        · omega)
  · refine (h.bk.each i hi).block (fun b _ hs => ⟨hblk b (fun e => h.notl g hg (e ▸ hs)), hs⟩) (Nat.le_of_eq hsz.symm)
  · refine (h.rest j hj (by omega)).1.kept hgb ?_
    cases hv : N[j].av.ownBlock with
    | none => exact .inl rfl
    | some b => exact .inr (fun e => hNl N[j] (List.getElem_mem hj) (by rw [hv]; exact e.symm ▸ rfl))
  · exact ⟨(World.cell?_of_block (w := wr) (a := ⟨bb, o, none⟩) (hblk bb hbg)).trans (h.other o ho).1, (World.frozen?_of_block (w := wr) (a := ⟨bb, o, none⟩) (hblk bb hbg)).trans (h.other o ho).2⟩
  · have := h.touch
    exact ⟨h1.trans this.os, h2.trans this.tape, h3.trans this.output, by rw [hsz]; exact this.size, fun b hb hn => (hblk b (fun e => hn (.inr (.inr (by omega))))).trans (this.block b hb hn)⟩
theorem KeptTo.keep {S : Nat → Prop} {B : Nat} {w : World} {bb bo : Nat} {vA : Value} {EA : List Value} {l : Value} {N : List TN} {k m : Nat} {wr w1 : World} {SA : Nat → Prop} {vA' v2 : Value} {EA' E2 : List Value}
    (h : KeptTo S B w bb bo vA EA l N k m wr SA vA' EA') (hk : k < N.length) (hm : m < 5) (hbB : bb < B) (hBw : B ≤ w.heap.size) (hvB : ∀ b, vA.ownBlock = some b → b < B)
    (hlt : ∀ b, l.ownBlock = some b → B ≤ b ∧ b < w.heap.size) (hNl : ∀ n, n ∈ N → ∀ b, n.av.ownBlock = some b → l.ownBlock ≠ some b ∧ b < w.heap.size) (hfar : N.Pairwise fun m n => n.av.ownBlock = none ∨ n.av.ownBlock ≠ m.av.ownBlock)
    (ht : Touch (fun b => b = bb ∨ some b = vA'.ownBlock ∨ some b = N[k].av.ownBlock) wr w1) (hc : w1.cell? ⟨bb, bo + 1, none⟩ = some v2) (hf : w1.frozen? ⟨bb, bo + 1, none⟩ = false) (hl2 : E2.length = EA'.length + 4)
    (hv2 : ∀ b, v2.ownBlock = some b → vA'.ownBlock = some b ∨ wr.heap.size ≤ b) (hoth : ∀ o, o ≠ bo + 1 → w1.cell? ⟨bb, o, none⟩ = wr.cell? ⟨bb, o, none⟩ ∧ w1.frozen? ⟨bb, o, none⟩ = wr.frozen? ⟨bb, o, none⟩)
    (hbk : AttsBk (fun b => SA b ∨ some b = N[k].av.ownBlock ∨ (wr.heap.size ≤ b ∧ b < w1.heap.size ∧ some b ≠ v2.ownBlock)) w1 v2 E2) :
    ∃ SA' : Nat → Prop, KeptTo S B w bb bo vA EA l N (k + 1) (m + 1) w1 SA' v2 E2 := by
  have hs1 := ht.size
  have hsz := h.size
  have hN := hNl N[k] (List.getElem_mem hk)
  have hpair : ∀ j, (hj : j < N.length) → k + 1 ≤ j → N[j].av.ownBlock = none ∨ N[j].av.ownBlock ≠ N[k].av.ownBlock := fun j hj hjk => List.pairwise_iff_getElem.1 hfar k j hk hj hjk
  have hrow := (h.rest k hk (Nat.le_refl _)).1
  refine ⟨fun b => SA b ∨ some b = N[k].av.ownBlock ∨ (wr.heap.size ≤ b ∧ b < w1.heap.size ∧ some b ≠ v2.ownBlock), ?_⟩
  refine ⟨by omega, hc, hf, by rw [hl2, h.len]; omega, hbk, fun b hb => ?_, fun b hb hs => ?_, fun hs => ?_, fun b hb => ?_, fun j hj hjk => ⟨?_, fun b hb hs => ?_⟩, fun o ho => ⟨(hoth o ho).1.trans (h.other o ho).1, (hoth o ho).2.trans (h.other o ho).2⟩, ?_, by omega⟩
  · rcases hb with hb | hb | hb
    · rcases h.sub b hb with h | h
      · exact .inl h
      · exact .inr ⟨h.1, by omega⟩
    · have := hrow.lt b hb.symm; exact .inr ⟨this.1, by omega⟩
    · exact .inr ⟨by omega, hb.2.1⟩
  · have hl := hlt b hb
    rcases hs with hs | hs | hs
    · exact h.notl b hb hs
    · exact (hN b hs.symm).1 hb
    · omega
  · rcases hs with hs | hs | hs
    · exact h.notm hs
    · have := (hN _ hs.symm).2; omega
    · omega
  · rcases hv2 b hb with e | e
    · exact h.own b e
    · right; omega
  · refine own_block (h.rest j hj (by omega)).1 (fun b hb => ?_)
    have hj1 := hNl N[j] (List.getElem_mem hj) b hb
    have hj2 := (h.rest j hj (by omega)).1.lt b hb
    refine ht.block b (by omega) (fun e => ?_)
    rcases e with e | e | e
    · omega
    · rcases h.own b e.symm with e | e
      · have := hvB b e; omega
      · omega
    · rcases hpair j hj hjk with h2 | h2
      · rw [h2] at hb; cases hb
      · exact h2 (by rw [hb, e])
  · have hj1 := hNl N[j] (List.getElem_mem hj) b hb
    have hj2 := (h.rest j hj (by omega))
    rcases hs with hs | hs | hs
    · exact hj2.2 b hb hs
    · rcases hpair j hj hjk with h2 | h2
      · rw [h2] at hb; cases hb
      · exact h2 (by rw [hb, hs])
    · omega
  · refine Touch.trans h.touch (ht.mono fun b hb e => ?_)
    rcases e with e | e | e
    · exact .inl (.inl e)
    · rcases h.own b e.symm with e | e
      · exact .inl (.inr (.inl e.symm))
      · exact .inr (by omega)
    · exact .inl (.inr (.inr (hrow.lt b e.symm).1))
end Go.Proofs.YtobgcaemnpkbmaaGreat
