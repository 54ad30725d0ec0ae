/- Fm -/
import Derived.Test.YtobgcaemnpkbmaaMd22
import Derived.Test.YtobgcaemnpkbmaaMd13
namespace Go.Proofs.Ytobgcaemnpkbmaa
open Go.RowKit
def Pat.cells (x : Pat) : List Value := [.int .i64 x.kind, .int .i64 x.id, .int .i64 x.par, .int .i64 x.bef, .int .i64 x.key, .string x.tag, .string x.name, .string x.text]
def patsL (l : List Pat) : List Value := l.flatMap Pat.cells
theorem patsL_snoc (l : List Pat) (x : Pat) : patsL (l ++ [x]) = patsL l ++ x.cells := by unfold patsL; simp
structure WayAt (B : Nat) (w : World) (WB : Nat) (pv : Value) (P : List Pat) (last : Int) : Prop where
  c0 : w.cell? ⟨WB, 0, none⟩ = some pv
  f0 : w.frozen? ⟨WB, 0, none⟩ = false
  c1 : w.cell? ⟨WB, 1, none⟩ = some (.int .i64 last)
  f1 : w.frozen? ⟨WB, 1, none⟩ = false
  row : w.ownsRow B 43 8 pv P.length (patsL P)
  apart : ∀ b, pv.ownBlock = some b → b ≠ WB
  lt : WB < w.heap.size
theorem own_keep (s : ByteArray) (w : World) (hlim : s.size ≤ 281474976710656) :
    Calls Try.prog 46 #[.string s] w fun e w' => e = .returned (.string s) ∧ Below w.heap.size w w' ∧ (∀ a v, w.cell? a = some v → w'.cell? a = some v) ∧ ∀ b o v, w.cell? ⟨b, o, none⟩ = some v → w.frozen? ⟨b, o, none⟩ = false → w'.frozen? ⟨b, o, none⟩ = false := by
  refine (own_any s w hlim).mono ?_
  rintro e w' ⟨rfl, hb⟩
  refine ⟨rfl, hb, fun a v h => (hb.cell (World.block_lt_of_cell? w a h)).trans h, fun b o v h hf => (hb.frozen (p := ⟨b, o, none⟩) (World.block_lt_of_cell? w _ h)).trans hf⟩
set_option maxHeartbeats 2000000 in
set_option maxRecDepth 100000 in
theorem tell_one (B WB : Nat) (pv : Value) (P : List Pat) (last : Int) (w : World) (h : WayAt B w WB pv P last) (hB : B ≤ w.heap.size) (hP : P.length ≤ 1000000) (x : Pat) (hx1 : x.tag.size ≤ 281474976710656) (hx2 : x.name.size ≤ 281474976710656) (hx3 : x.text.size ≤ 281474976710656) (b o c : Nat) (hb : b < w.heap.size) (hc : ∀ r, r < 8 → w.cell? ⟨b, o + r, none⟩ = some (patCell x r)) :
    Calls Try.prog 57 #[.pointer (some ⟨WB, 0, none⟩), .slice (some ⟨b, o, none⟩) 1 c] w fun e w' => e = .returned (.tuple #[]) ∧ ∃ pv', WayAt B w' WB pv' (P ++ [x]) last ∧ (∀ b, pv'.ownBlock = some b → pv.ownBlock = some b ∨ w.heap.size ≤ b) ∧ Touch (fun b => b = WB ∨ some b = pv.ownBlock) w w' := by
  obtain ⟨i0, hi, hz0, hz1, hz2⟩ := info_parts patInfo
  obtain ⟨kd, id, pa, bf, ky, tg, nm, tx⟩ := x
  have c0 : w.cell? ⟨b, o, none⟩ = some (.int .i64 kd) := hc 0 (by omega)
  have c1 : w.cell? ⟨b, o + 1, none⟩ = some (.int .i64 id) := hc 1 (by omega)
  have c2 : w.cell? ⟨b, o + 2, none⟩ = some (.int .i64 pa) := hc 2 (by omega)
  have c3 : w.cell? ⟨b, o + 3, none⟩ = some (.int .i64 bf) := hc 3 (by omega)
  have c4 : w.cell? ⟨b, o + 4, none⟩ = some (.int .i64 ky) := hc 4 (by omega)
  have c5 : w.cell? ⟨b, o + 5, none⟩ = some (.string tg) := hc 5 (by omega)
  have c6 : w.cell? ⟨b, o + 6, none⟩ = some (.string nm) := hc 6 (by omega)
  have c7 : w.cell? ⟨b, o + 7, none⟩ = some (.string tx) := hc 7 (by omega)
  have H := hide h
  clear h hc
  go_enter Try.func57, Try.ntmps57
  go_wp2_with fail
  go_loopw [5, 8] (fun _ i wr => (i = .int .i64 0 ∧ wr = w) ∨ (i = .int .i64 1 ∧ Hid (∃ pv', WayAt B wr WB pv' (P ++ [⟨kd, id, pa, bf, ky, tg, nm, tx⟩]) last ∧ (∀ b, pv'.ownBlock = some b → pv.ownBlock = some b ∨ w.heap.size ≤ b) ∧ Touch (fun b => b = WB ∨ some b = pv.ownBlock) w wr))) (fun _ i _ => 1 - (intOf i).toNat)
  case atStart => exact .inl ⟨rfl, rfl⟩
  case round =>
    rcases hrel with ⟨rfl, rfl⟩ | ⟨rfl, hE⟩
    · go_wp2_with fail
      generalize hw0 : wr.alloc (.cells #[.int .i64 kd, .int .i64 id, .int .i64 pa, .int .i64 bf, .int .i64 ky, .string tg, .string nm, .string tx] 43) = w0
      have hb0 : Below wr.heap.size wr w0 := by rw [← hw0]; exact (Below.refl _ _).alloc (Nat.le_refl _) _
      have s0 : wr.heap.size < w0.heap.size := by rw [← hw0]; simp
      have a0 : w0.cell? ⟨wr.heap.size, 0, none⟩ = some (.int .i64 kd) := by rw [← hw0]; simp [go_sem]
      have a1 : w0.cell? ⟨wr.heap.size, 1, none⟩ = some (.int .i64 id) := by rw [← hw0]; simp [go_sem]
      have a2 : w0.cell? ⟨wr.heap.size, 2, none⟩ = some (.int .i64 pa) := by rw [← hw0]; simp [go_sem]
      have a3 : w0.cell? ⟨wr.heap.size, 3, none⟩ = some (.int .i64 bf) := by rw [← hw0]; simp [go_sem]
      have a4 : w0.cell? ⟨wr.heap.size, 4, none⟩ = some (.int .i64 ky) := by rw [← hw0]; simp [go_sem]
      have a5 : w0.cell? ⟨wr.heap.size, 5, none⟩ = some (.string tg) := by rw [← hw0]; simp [go_sem]
      have a6 : w0.cell? ⟨wr.heap.size, 6, none⟩ = some (.string nm) := by rw [← hw0]; simp [go_sem]
      have a7 : w0.cell? ⟨wr.heap.size, 7, none⟩ = some (.string tx) := by rw [← hw0]; simp [go_sem]
      have z5 : w0.frozen? ⟨wr.heap.size, 5, none⟩ = false := by rw [← hw0]; simp [go_sem]
      have z6 : w0.frozen? ⟨wr.heap.size, 6, none⟩ = false := by rw [← hw0]; simp [go_sem]
      have z7 : w0.frozen? ⟨wr.heap.size, 7, none⟩ = false := by rw [← hw0]; simp [go_sem]
      have HB0 := hide hb0
      clear hw0 hb0
      have hS0 : (fun w' : World => w'.cell? ⟨wr.heap.size, 5, none⟩ = some (.string tg) ∧ w'.cell? ⟨wr.heap.size, 6, none⟩ = some (.string nm) ∧ w'.cell? ⟨wr.heap.size, 7, none⟩ = some (.string tx)) w0.drew := ⟨a5, a6, a7⟩
      refine wp_region_last (S := (fun w' : World => w'.cell? ⟨wr.heap.size, 5, none⟩ = some (.string tg) ∧ w'.cell? ⟨wr.heap.size, 6, none⟩ = some (.string nm) ∧ w'.cell? ⟨wr.heap.size, 7, none⟩ = some (.string tx))) (by kernel_rfl) ?_
      refine wpAnyT_take (i := 0) (v := ?va0) rfl (by kernel_rfl) (by kernel_rfl) (by kernel_rfl) (by kernel_rfl) (fun _ _ _ h => h) (Or.inl ⟨by rfl, ?hya0⟩) hS0 ?ra0
      case hya0 => (intro w' hSw; (try obtain ⟨q0, q1, q2⟩ := hSw); simp only [List.getElem_toArray, List.getElem_cons_zero]; go_simp; try (with_reducible rfl))
      simp only [List.getElem_toArray, List.getElem_cons_zero, Act.put, List.setIfInBounds_toArray, List.set_cons_zero, List.set_cons_succ]
      refine wpAnyT_take (i := 1) (v := ?va1) rfl (by kernel_rfl) (by kernel_rfl) (by kernel_rfl) (by kernel_rfl) (fun _ _ _ h => h) (Or.inl ⟨by rfl, ?hya1⟩) hS0 ?ra1
      case hya1 => (intro w' hSw; (try obtain ⟨q0, q1, q2⟩ := hSw); simp only [List.getElem_toArray, List.getElem_cons_zero, List.getElem_cons_succ]; go_simp; try (with_reducible rfl))
      simp only [List.getElem_toArray, List.getElem_cons_zero, List.getElem_cons_succ, Act.put, List.setIfInBounds_toArray, List.set_cons_zero, List.set_cons_succ]
      refine wpAnyT_take (i := 3) (v := ?va3) rfl (by kernel_rfl) (by kernel_rfl) (by kernel_rfl) (by kernel_rfl) (fun _ _ _ h => h) (Or.inl ⟨by rfl, ?hya3⟩) hS0 ?ra3
      case hya3 => (intro w' hSw; (try obtain ⟨q0, q1, q2⟩ := hSw); simp only [List.getElem_toArray, List.getElem_cons_zero, List.getElem_cons_succ]; go_simp; try (with_reducible rfl))
      simp only [List.getElem_toArray, List.getElem_cons_zero, List.getElem_cons_succ, Act.put, List.setIfInBounds_toArray, List.set_cons_zero, List.set_cons_succ]
      refine wpAnyT_take (i := 4) (v := ?va4) rfl (by kernel_rfl) (by kernel_rfl) (by kernel_rfl) (by kernel_rfl) (fun _ _ _ h => h) (Or.inl ⟨by rfl, ?hya4⟩) hS0 ?ra4
      case hya4 => (intro w' hSw; (try obtain ⟨q0, q1, q2⟩ := hSw); simp only [List.getElem_toArray, List.getElem_cons_zero, List.getElem_cons_succ]; go_simp; try (with_reducible rfl))
      simp only [List.getElem_toArray, List.getElem_cons_zero, List.getElem_cons_succ, Act.put, List.setIfInBounds_toArray, List.set_cons_zero, List.set_cons_succ]
      refine wpAnyT_take (i := 6) (v := ?va6) rfl (by kernel_rfl) (by kernel_rfl) (by kernel_rfl) (by kernel_rfl) (fun _ _ _ h => h) (Or.inl ⟨by rfl, ?hya6⟩) hS0 ?ra6
      case hya6 => (intro w' hSw; (try obtain ⟨q0, q1, q2⟩ := hSw); simp only [List.getElem_toArray, List.getElem_cons_zero, List.getElem_cons_succ]; go_simp; try (with_reducible rfl))
      simp only [List.getElem_toArray, List.getElem_cons_zero, List.getElem_cons_succ, Act.put, List.setIfInBounds_toArray, List.set_cons_zero, List.set_cons_succ]
      refine wpAnyT_take (i := 7) (v := ?va7) rfl (by kernel_rfl) (by kernel_rfl) (by kernel_rfl) (by kernel_rfl) (fun _ _ _ h => h) (Or.inl ⟨by rfl, ?hya7⟩) hS0 ?ra7
      case hya7 => (intro w' hSw; (try obtain ⟨q0, q1, q2⟩ := hSw); simp only [List.getElem_toArray, List.getElem_cons_zero, List.getElem_cons_succ]; go_simp; try (with_reducible rfl))
      simp only [List.getElem_toArray, List.getElem_cons_zero, List.getElem_cons_succ, Act.put, List.setIfInBounds_toArray, List.set_cons_zero, List.set_cons_succ]
      refine wpAnyT_one (i := 2) rfl (by kernel_rfl) (by rfl) ?_
      simp only [List.getElem_toArray, List.getElem_cons_zero, List.getElem_cons_succ]
      go_simp
      refine (own_keep tg _ hx1).mono ?_
      rintro e w2 ⟨rfl, hb2, hk2, hf2⟩
      have b2_0 : w2.cell? ⟨wr.heap.size, 0, none⟩ = some (.int .i64 kd) := hk2 _ _ a0
      have b2_1 : w2.cell? ⟨wr.heap.size, 1, none⟩ = some (.int .i64 id) := hk2 _ _ a1
      have b2_2 : w2.cell? ⟨wr.heap.size, 2, none⟩ = some (.int .i64 pa) := hk2 _ _ a2
      have b2_3 : w2.cell? ⟨wr.heap.size, 3, none⟩ = some (.int .i64 bf) := hk2 _ _ a3
      have b2_4 : w2.cell? ⟨wr.heap.size, 4, none⟩ = some (.int .i64 ky) := hk2 _ _ a4
      have b2_5 : w2.cell? ⟨wr.heap.size, 5, none⟩ = some (.string tg) := hk2 _ _ a5
      have b2_6 : w2.cell? ⟨wr.heap.size, 6, none⟩ = some (.string nm) := hk2 _ _ a6
      have b2_7 : w2.cell? ⟨wr.heap.size, 7, none⟩ = some (.string tx) := hk2 _ _ a7
      have g2_5 : w2.frozen? ⟨wr.heap.size, 5, none⟩ = false := hf2 _ _ _ a5 z5
      have g2_6 : w2.frozen? ⟨wr.heap.size, 6, none⟩ = false := hf2 _ _ _ a6 z6
      have g2_7 : w2.frozen? ⟨wr.heap.size, 7, none⟩ = false := hf2 _ _ _ a7 z7
      clear hS0
      have hS0 : (fun w' : World => w'.cell? ⟨wr.heap.size, 5, none⟩ = some (.string tg) ∧ w'.cell? ⟨wr.heap.size, 6, none⟩ = some (.string nm) ∧ w'.cell? ⟨wr.heap.size, 7, none⟩ = some (.string tx)) w2 := ⟨b2_5, b2_6, b2_7⟩
      refine ⟨.inr hS0, ?_⟩
      have HB2 : Hid (Below wr.heap.size wr w2) := hide (HB0.out.trans (((Below.refl w0.heap.size w0).drew.trans hb2).mono (Nat.le_of_lt s0)))
      have s2 : wr.heap.size < w2.heap.size := World.block_lt_of_cell? _ _ b2_5
      clear hb2 hk2 hf2 a0 a1 a2 a3 a4 a5 a6 a7 z5 z6 z7
      try simp only [Act.put, List.setIfInBounds_toArray, List.set_cons_zero, List.set_cons_succ]
      refine wpAnyT_take (i := 9) (v := ?va9) rfl (by kernel_rfl) (by kernel_rfl) (by kernel_rfl) (by kernel_rfl) (fun _ _ _ h => h) (Or.inl ⟨by rfl, ?hya9⟩) hS0 ?ra9
      case hya9 => (intro w' hSw; (try obtain ⟨q0, q1, q2⟩ := hSw); simp only [List.getElem_toArray, List.getElem_cons_zero, List.getElem_cons_succ]; go_simp; try (with_reducible rfl))
      simp only [List.getElem_toArray, List.getElem_cons_zero, List.getElem_cons_succ, Act.put, List.setIfInBounds_toArray, List.set_cons_zero, List.set_cons_succ]
      refine wpAnyT_one (i := 5) rfl (by kernel_rfl) (by rfl) ?_
      simp only [List.getElem_toArray, List.getElem_cons_zero, List.getElem_cons_succ]
      go_simp
      refine (own_keep nm _ hx2).mono ?_
      rintro e w5 ⟨rfl, hb5, hk5, hf5⟩
      have b5_0 : w5.cell? ⟨wr.heap.size, 0, none⟩ = some (.int .i64 kd) := hk5 _ _ b2_0
      have b5_1 : w5.cell? ⟨wr.heap.size, 1, none⟩ = some (.int .i64 id) := hk5 _ _ b2_1
      have b5_2 : w5.cell? ⟨wr.heap.size, 2, none⟩ = some (.int .i64 pa) := hk5 _ _ b2_2
      have b5_3 : w5.cell? ⟨wr.heap.size, 3, none⟩ = some (.int .i64 bf) := hk5 _ _ b2_3
      have b5_4 : w5.cell? ⟨wr.heap.size, 4, none⟩ = some (.int .i64 ky) := hk5 _ _ b2_4
      have b5_5 : w5.cell? ⟨wr.heap.size, 5, none⟩ = some (.string tg) := hk5 _ _ b2_5
      have b5_6 : w5.cell? ⟨wr.heap.size, 6, none⟩ = some (.string nm) := hk5 _ _ b2_6
      have b5_7 : w5.cell? ⟨wr.heap.size, 7, none⟩ = some (.string tx) := hk5 _ _ b2_7
      have g5_5 : w5.frozen? ⟨wr.heap.size, 5, none⟩ = false := hf5 _ _ _ b2_5 g2_5
      have g5_6 : w5.frozen? ⟨wr.heap.size, 6, none⟩ = false := hf5 _ _ _ b2_6 g2_6
      have g5_7 : w5.frozen? ⟨wr.heap.size, 7, none⟩ = false := hf5 _ _ _ b2_7 g2_7
      clear hS0
      have hS0 : (fun w' : World => w'.cell? ⟨wr.heap.size, 5, none⟩ = some (.string tg) ∧ w'.cell? ⟨wr.heap.size, 6, none⟩ = some (.string nm) ∧ w'.cell? ⟨wr.heap.size, 7, none⟩ = some (.string tx)) w5 := ⟨b5_5, b5_6, b5_7⟩
      refine ⟨.inr hS0, ?_⟩
      have HB5 : Hid (Below wr.heap.size wr w5) := hide (HB2.out.trans (hb5.mono (Nat.le_of_lt s2)))
      have s5 : wr.heap.size < w5.heap.size := World.block_lt_of_cell? _ _ b5_5
      clear hb5 hk5 hf5 b2_0 b2_1 b2_2 b2_3 b2_4 b2_5 b2_6 b2_7 g2_5 g2_6 g2_7
      try simp only [Act.put, List.setIfInBounds_toArray, List.set_cons_zero, List.set_cons_succ]
      refine wpAnyT_one (i := 8) rfl (by kernel_rfl) (by rfl) ?_
      simp only [List.getElem_toArray, List.getElem_cons_zero, List.getElem_cons_succ]
      go_simp
      refine (own_keep tx _ hx3).mono ?_
      rintro e w8 ⟨rfl, hb8, hk8, hf8⟩
      have b8_0 : w8.cell? ⟨wr.heap.size, 0, none⟩ = some (.int .i64 kd) := hk8 _ _ b5_0
      have b8_1 : w8.cell? ⟨wr.heap.size, 1, none⟩ = some (.int .i64 id) := hk8 _ _ b5_1
      have b8_2 : w8.cell? ⟨wr.heap.size, 2, none⟩ = some (.int .i64 pa) := hk8 _ _ b5_2
      have b8_3 : w8.cell? ⟨wr.heap.size, 3, none⟩ = some (.int .i64 bf) := hk8 _ _ b5_3
      have b8_4 : w8.cell? ⟨wr.heap.size, 4, none⟩ = some (.int .i64 ky) := hk8 _ _ b5_4
      have b8_5 : w8.cell? ⟨wr.heap.size, 5, none⟩ = some (.string tg) := hk8 _ _ b5_5
      have b8_6 : w8.cell? ⟨wr.heap.size, 6, none⟩ = some (.string nm) := hk8 _ _ b5_6
      have b8_7 : w8.cell? ⟨wr.heap.size, 7, none⟩ = some (.string tx) := hk8 _ _ b5_7
      have g8_5 : w8.frozen? ⟨wr.heap.size, 5, none⟩ = false := hf8 _ _ _ b5_5 g5_5
      have g8_6 : w8.frozen? ⟨wr.heap.size, 6, none⟩ = false := hf8 _ _ _ b5_6 g5_6
      have g8_7 : w8.frozen? ⟨wr.heap.size, 7, none⟩ = false := hf8 _ _ _ b5_7 g5_7
      clear hS0
      have hS0 : (fun w' : World => w'.cell? ⟨wr.heap.size, 5, none⟩ = some (.string tg) ∧ w'.cell? ⟨wr.heap.size, 6, none⟩ = some (.string nm) ∧ w'.cell? ⟨wr.heap.size, 7, none⟩ = some (.string tx)) w8 := ⟨b8_5, b8_6, b8_7⟩
      refine ⟨.inr hS0, ?_⟩
      have HB8 : Hid (Below wr.heap.size wr w8) := hide (HB5.out.trans (hb8.mono (Nat.le_of_lt s5)))
      have s8 : wr.heap.size < w8.heap.size := World.block_lt_of_cell? _ _ b8_5
      clear hb8 hk8 hf8 b5_0 b5_1 b5_2 b5_3 b5_4 b5_5 b5_6 b5_7 g5_5 g5_6 g5_7
      try simp only [Act.put, List.setIfInBounds_toArray, List.set_cons_zero, List.set_cons_succ]
      refine wpAnyT_one (i := 10) rfl (by kernel_rfl) (by rfl) ?_
      simp only [List.getElem_toArray, List.getElem_cons_zero, List.getElem_cons_succ]
      go_simp
      generalize hw10 : w8.setCell ⟨wr.heap.size, 5, none⟩ (.string tg) = x10
      have d10_0 : x10.cell? ⟨wr.heap.size, 0, none⟩ = some (.int .i64 kd) := by rw [← hw10]; exact (World.cell?_setCell_other _ _ _ _ (by intro e; cases e)).trans b8_0
      have d10_1 : x10.cell? ⟨wr.heap.size, 1, none⟩ = some (.int .i64 id) := by rw [← hw10]; exact (World.cell?_setCell_other _ _ _ _ (by intro e; cases e)).trans b8_1
      have d10_2 : x10.cell? ⟨wr.heap.size, 2, none⟩ = some (.int .i64 pa) := by rw [← hw10]; exact (World.cell?_setCell_other _ _ _ _ (by intro e; cases e)).trans b8_2
      have d10_3 : x10.cell? ⟨wr.heap.size, 3, none⟩ = some (.int .i64 bf) := by rw [← hw10]; exact (World.cell?_setCell_other _ _ _ _ (by intro e; cases e)).trans b8_3
      have d10_4 : x10.cell? ⟨wr.heap.size, 4, none⟩ = some (.int .i64 ky) := by rw [← hw10]; exact (World.cell?_setCell_other _ _ _ _ (by intro e; cases e)).trans b8_4
      have d10_5 : x10.cell? ⟨wr.heap.size, 5, none⟩ = some (.string tg) := by rw [← hw10]; exact World.cell?_setCell_same _ _ _ b8_5
      have d10_6 : x10.cell? ⟨wr.heap.size, 6, none⟩ = some (.string nm) := by rw [← hw10]; exact (World.cell?_setCell_other _ _ _ _ (by intro e; cases e)).trans b8_6
      have d10_7 : x10.cell? ⟨wr.heap.size, 7, none⟩ = some (.string tx) := by rw [← hw10]; exact (World.cell?_setCell_other _ _ _ _ (by intro e; cases e)).trans b8_7
      have e10_5 : x10.frozen? ⟨wr.heap.size, 5, none⟩ = false := by rw [← hw10]; exact (World.frozen?_setCell ..).trans g8_5
      have e10_6 : x10.frozen? ⟨wr.heap.size, 6, none⟩ = false := by rw [← hw10]; exact (World.frozen?_setCell ..).trans g8_6
      have e10_7 : x10.frozen? ⟨wr.heap.size, 7, none⟩ = false := by rw [← hw10]; exact (World.frozen?_setCell ..).trans g8_7
      have HB10 : Hid (Below wr.heap.size wr x10) := hide (by rw [← hw10]; exact HB8.out.setCell (Nat.le_refl _) _)
      have s10 : wr.heap.size < x10.heap.size := World.block_lt_of_cell? _ _ d10_5
      clear hS0
      have hS0 : (fun w' : World => w'.cell? ⟨wr.heap.size, 5, none⟩ = some (.string tg) ∧ w'.cell? ⟨wr.heap.size, 6, none⟩ = some (.string nm) ∧ w'.cell? ⟨wr.heap.size, 7, none⟩ = some (.string tx)) x10 := ⟨d10_5, d10_6, d10_7⟩
      clear hw10 b8_0 b8_1 b8_2 b8_3 b8_4 b8_5 b8_6 b8_7 g8_5 g8_6 g8_7
      try simp only [Act.put, List.setIfInBounds_toArray, List.set_cons_zero, List.set_cons_succ]
      refine wpAnyT_take (i := 11) (v := ?vc11) rfl (by kernel_rfl) (by kernel_rfl) (by kernel_rfl) (by kernel_rfl) (fun _ _ _ h => h) (Or.inl ⟨by rfl, ?hyc11⟩) hS0 ?rc11
      case hyc11 => (intro w' hSw; (try obtain ⟨q0, q1, q2⟩ := hSw); simp only [List.getElem_toArray, List.getElem_cons_zero, List.getElem_cons_succ]; go_simp; try (with_reducible rfl))
      simp only [List.getElem_toArray, List.getElem_cons_zero, List.getElem_cons_succ, Act.put, List.setIfInBounds_toArray, List.set_cons_zero, List.set_cons_succ]
      refine wpAnyT_one (i := 12) rfl (by kernel_rfl) (by rfl) ?_
      simp only [List.getElem_toArray, List.getElem_cons_zero, List.getElem_cons_succ]
      go_simp
      generalize hw12 : x10.setCell ⟨wr.heap.size, 6, none⟩ (.string nm) = x12
      have d12_0 : x12.cell? ⟨wr.heap.size, 0, none⟩ = some (.int .i64 kd) := by rw [← hw12]; exact (World.cell?_setCell_other _ _ _ _ (by intro e; cases e)).trans d10_0
      have d12_1 : x12.cell? ⟨wr.heap.size, 1, none⟩ = some (.int .i64 id) := by rw [← hw12]; exact (World.cell?_setCell_other _ _ _ _ (by intro e; cases e)).trans d10_1
      have d12_2 : x12.cell? ⟨wr.heap.size, 2, none⟩ = some (.int .i64 pa) := by rw [← hw12]; exact (World.cell?_setCell_other _ _ _ _ (by intro e; cases e)).trans d10_2
      have d12_3 : x12.cell? ⟨wr.heap.size, 3, none⟩ = some (.int .i64 bf) := by rw [← hw12]; exact (World.cell?_setCell_other _ _ _ _ (by intro e; cases e)).trans d10_3
      have d12_4 : x12.cell? ⟨wr.heap.size, 4, none⟩ = some (.int .i64 ky) := by rw [← hw12]; exact (World.cell?_setCell_other _ _ _ _ (by intro e; cases e)).trans d10_4
      have d12_5 : x12.cell? ⟨wr.heap.size, 5, none⟩ = some (.string tg) := by rw [← hw12]; exact (World.cell?_setCell_other _ _ _ _ (by intro e; cases e)).trans d10_5
      have d12_6 : x12.cell? ⟨wr.heap.size, 6, none⟩ = some (.string nm) := by rw [← hw12]; exact World.cell?_setCell_same _ _ _ d10_6
      have d12_7 : x12.cell? ⟨wr.heap.size, 7, none⟩ = some (.string tx) := by rw [← hw12]; exact (World.cell?_setCell_other _ _ _ _ (by intro e; cases e)).trans d10_7
      have e12_5 : x12.frozen? ⟨wr.heap.size, 5, none⟩ = false := by rw [← hw12]; exact (World.frozen?_setCell ..).trans e10_5
      have e12_6 : x12.frozen? ⟨wr.heap.size, 6, none⟩ = false := by rw [← hw12]; exact (World.frozen?_setCell ..).trans e10_6
      have e12_7 : x12.frozen? ⟨wr.heap.size, 7, none⟩ = false := by rw [← hw12]; exact (World.frozen?_setCell ..).trans e10_7
      have HB12 : Hid (Below wr.heap.size wr x12) := hide (by rw [← hw12]; exact HB10.out.setCell (Nat.le_refl _) _)
      have s12 : wr.heap.size < x12.heap.size := World.block_lt_of_cell? _ _ d12_5
      clear hS0
      have hS0 : (fun w' : World => w'.cell? ⟨wr.heap.size, 5, none⟩ = some (.string tg) ∧ w'.cell? ⟨wr.heap.size, 6, none⟩ = some (.string nm) ∧ w'.cell? ⟨wr.heap.size, 7, none⟩ = some (.string tx)) x12 := ⟨d12_5, d12_6, d12_7⟩
      clear hw12 d10_0 d10_1 d10_2 d10_3 d10_4 d10_5 d10_6 d10_7 e10_5 e10_6 e10_7
      try simp only [Act.put, List.setIfInBounds_toArray, List.set_cons_zero, List.set_cons_succ]
      refine wpAnyT_take (i := 13) (v := ?vc13) rfl (by kernel_rfl) (by kernel_rfl) (by kernel_rfl) (by kernel_rfl) (fun _ _ _ h => h) (Or.inl ⟨by rfl, ?hyc13⟩) hS0 ?rc13
      case hyc13 => (intro w' hSw; (try obtain ⟨q0, q1, q2⟩ := hSw); simp only [List.getElem_toArray, List.getElem_cons_zero, List.getElem_cons_succ]; go_simp; try (with_reducible rfl))
      simp only [List.getElem_toArray, List.getElem_cons_zero, List.getElem_cons_succ, Act.put, List.setIfInBounds_toArray, List.set_cons_zero, List.set_cons_succ]
      refine wpAnyT_one (i := 14) rfl (by kernel_rfl) (by rfl) ?_
      simp only [List.getElem_toArray, List.getElem_cons_zero, List.getElem_cons_succ]
      go_simp
      generalize hw14 : x12.setCell ⟨wr.heap.size, 7, none⟩ (.string tx) = x14
      have d14_0 : x14.cell? ⟨wr.heap.size, 0, none⟩ = some (.int .i64 kd) := by rw [← hw14]; exact (World.cell?_setCell_other _ _ _ _ (by intro e; cases e)).trans d12_0
      have d14_1 : x14.cell? ⟨wr.heap.size, 1, none⟩ = some (.int .i64 id) := by rw [← hw14]; exact (World.cell?_setCell_other _ _ _ _ (by intro e; cases e)).trans d12_1
      have d14_2 : x14.cell? ⟨wr.heap.size, 2, none⟩ = some (.int .i64 pa) := by rw [← hw14]; exact (World.cell?_setCell_other _ _ _ _ (by intro e; cases e)).trans d12_2
      have d14_3 : x14.cell? ⟨wr.heap.size, 3, none⟩ = some (.int .i64 bf) := by rw [← hw14]; exact (World.cell?_setCell_other _ _ _ _ (by intro e; cases e)).trans d12_3
      have d14_4 : x14.cell? ⟨wr.heap.size, 4, none⟩ = some (.int .i64 ky) := by rw [← hw14]; exact (World.cell?_setCell_other _ _ _ _ (by intro e; cases e)).trans d12_4
      have d14_5 : x14.cell? ⟨wr.heap.size, 5, none⟩ = some (.string tg) := by rw [← hw14]; exact (World.cell?_setCell_other _ _ _ _ (by intro e; cases e)).trans d12_5
      have d14_6 : x14.cell? ⟨wr.heap.size, 6, none⟩ = some (.string nm) := by rw [← hw14]; exact (World.cell?_setCell_other _ _ _ _ (by intro e; cases e)).trans d12_6
      have d14_7 : x14.cell? ⟨wr.heap.size, 7, none⟩ = some (.string tx) := by rw [← hw14]; exact World.cell?_setCell_same _ _ _ d12_7
      have e14_5 : x14.frozen? ⟨wr.heap.size, 5, none⟩ = false := by rw [← hw14]; exact (World.frozen?_setCell ..).trans e12_5
      have e14_6 : x14.frozen? ⟨wr.heap.size, 6, none⟩ = false := by rw [← hw14]; exact (World.frozen?_setCell ..).trans e12_6
      have e14_7 : x14.frozen? ⟨wr.heap.size, 7, none⟩ = false := by rw [← hw14]; exact (World.frozen?_setCell ..).trans e12_7
      have HB14 : Hid (Below wr.heap.size wr x14) := hide (by rw [← hw14]; exact HB12.out.setCell (Nat.le_refl _) _)
      have s14 : wr.heap.size < x14.heap.size := World.block_lt_of_cell? _ _ d14_5
      clear hS0
      clear hw14 d12_0 d12_1 d12_2 d12_3 d12_4 d12_5 d12_6 d12_7 e12_5 e12_6 e12_7
      try simp only [Act.put, List.setIfInBounds_toArray, List.set_cons_zero, List.set_cons_succ]
      refine wpAnyT_done (by kernel_rfl) ?_ _
      have hW := H.out
      have hWl : WB < wr.heap.size := hW.lt
      obtain ⟨pa0, pc0, hpv⟩ := own_shape hW.row
      subst hpv
      have p0 : x14.cell? ⟨WB, 0, none⟩ = some (.slice pa0 P.length pc0) := (HB14.out.cell (p := ⟨WB, 0, none⟩) hWl).trans hW.c0
      have p1 : x14.frozen? ⟨WB, 0, none⟩ = false := (HB14.out.frozen (p := ⟨WB, 0, none⟩) hWl).trans hW.f0
      clear hW
      go_wp2_with fail
      have hS0 : (fun w' : World => w'.frozen? ⟨WB, 0, none⟩ = false ∧ w'.cell? ⟨WB, 0, none⟩ = some (.slice pa0 P.length pc0) ∧ w'.cell? ⟨wr.heap.size, 0, none⟩ = some (.int .i64 kd) ∧ w'.cell? ⟨wr.heap.size, 1, none⟩ = some (.int .i64 id) ∧ w'.cell? ⟨wr.heap.size, 2, none⟩ = some (.int .i64 pa) ∧ w'.cell? ⟨wr.heap.size, 3, none⟩ = some (.int .i64 bf) ∧ w'.cell? ⟨wr.heap.size, 4, none⟩ = some (.int .i64 ky) ∧ w'.cell? ⟨wr.heap.size, 5, none⟩ = some (.string tg) ∧ w'.cell? ⟨wr.heap.size, 6, none⟩ = some (.string nm) ∧ w'.cell? ⟨wr.heap.size, 7, none⟩ = some (.string tx)) x14.drew := ⟨p1, p0, d14_0, d14_1, d14_2, d14_3, d14_4, d14_5, d14_6, d14_7⟩
      refine wp_region_last (S := (fun w' : World => w'.frozen? ⟨WB, 0, none⟩ = false ∧ w'.cell? ⟨WB, 0, none⟩ = some (.slice pa0 P.length pc0) ∧ w'.cell? ⟨wr.heap.size, 0, none⟩ = some (.int .i64 kd) ∧ w'.cell? ⟨wr.heap.size, 1, none⟩ = some (.int .i64 id) ∧ w'.cell? ⟨wr.heap.size, 2, none⟩ = some (.int .i64 pa) ∧ w'.cell? ⟨wr.heap.size, 3, none⟩ = some (.int .i64 bf) ∧ w'.cell? ⟨wr.heap.size, 4, none⟩ = some (.int .i64 ky) ∧ w'.cell? ⟨wr.heap.size, 5, none⟩ = some (.string tg) ∧ w'.cell? ⟨wr.heap.size, 6, none⟩ = some (.string nm) ∧ w'.cell? ⟨wr.heap.size, 7, none⟩ = some (.string tx))) (by kernel_rfl) ?_
      refine wpAnyT_take (i := 0) (v := ?vm0) rfl (by kernel_rfl) (by kernel_rfl) (by kernel_rfl) (by kernel_rfl) (fun _ _ _ h => h) (Or.inl ⟨by rfl, ?hym0⟩) hS0 ?rm0
      case hym0 => (intro w' hSw; (try obtain ⟨q0, q1, q2, q3, q4, q5, q6, q7, q8, q9⟩ := hSw); simp only [List.getElem_toArray, List.getElem_cons_zero]; go_simp; try (with_reducible rfl))
      simp only [List.getElem_toArray, List.getElem_cons_zero, Act.put, List.setIfInBounds_toArray, List.set_cons_zero, List.set_cons_succ]
      refine wpAnyT_take (i := 1) (v := ?vm1) rfl (by kernel_rfl) (by kernel_rfl) (by kernel_rfl) (by kernel_rfl) (fun _ _ _ h => h) (Or.inl ⟨by rfl, ?hym1⟩) hS0 ?rm1
      case hym1 => (intro w' hSw; (try obtain ⟨q0, q1, q2, q3, q4, q5, q6, q7, q8, q9⟩ := hSw); simp only [List.getElem_toArray, List.getElem_cons_zero, List.getElem_cons_succ]; go_simp; try (with_reducible rfl))
      simp only [List.getElem_toArray, List.getElem_cons_zero, List.getElem_cons_succ, Act.put, List.setIfInBounds_toArray, List.set_cons_zero, List.set_cons_succ]
      refine wpAnyT_take (i := 2) (v := ?vm2) rfl (by kernel_rfl) (by kernel_rfl) (by kernel_rfl) (by kernel_rfl) (fun _ _ _ h => h) (Or.inl ⟨by rfl, ?hym2⟩) hS0 ?rm2
      case hym2 => (intro w' hSw; (try obtain ⟨q0, q1, q2, q3, q4, q5, q6, q7, q8, q9⟩ := hSw); simp only [List.getElem_toArray, List.getElem_cons_zero, List.getElem_cons_succ]; go_simp; try (with_reducible rfl))
      simp only [List.getElem_toArray, List.getElem_cons_zero, List.getElem_cons_succ, Act.put, List.setIfInBounds_toArray, List.set_cons_zero, List.set_cons_succ]
      refine wpAnyT_take (i := 3) (v := ?vm3) rfl (by kernel_rfl) (by kernel_rfl) (by kernel_rfl) (by kernel_rfl) (fun _ _ _ h => h) (Or.inl ⟨by rfl, ?hym3⟩) hS0 ?rm3
      case hym3 => (intro w' hSw; (try obtain ⟨q0, q1, q2, q3, q4, q5, q6, q7, q8, q9⟩ := hSw); simp only [List.getElem_toArray, List.getElem_cons_zero, List.getElem_cons_succ]; go_simp; try (with_reducible rfl))
      simp only [List.getElem_toArray, List.getElem_cons_zero, List.getElem_cons_succ, Act.put, List.setIfInBounds_toArray, List.set_cons_zero, List.set_cons_succ]
      refine wpAnyT_take (i := 4) (v := ?vm4) rfl (by kernel_rfl) (by kernel_rfl) (by kernel_rfl) (by kernel_rfl) (fun _ _ _ h => h) (Or.inl ⟨by rfl, ?hym4⟩) hS0 ?rm4
      case hym4 => (intro w' hSw; (try obtain ⟨q0, q1, q2, q3, q4, q5, q6, q7, q8, q9⟩ := hSw); simp only [List.getElem_toArray, List.getElem_cons_zero, List.getElem_cons_succ]; go_simp; try (with_reducible rfl))
      simp only [List.getElem_toArray, List.getElem_cons_zero, List.getElem_cons_succ, Act.put, List.setIfInBounds_toArray, List.set_cons_zero, List.set_cons_succ]
      refine wpAnyT_take (i := 5) (v := ?vm5) rfl (by kernel_rfl) (by kernel_rfl) (by kernel_rfl) (by kernel_rfl) (fun _ _ _ h => h) (Or.inl ⟨by rfl, ?hym5⟩) hS0 ?rm5
      case hym5 => (intro w' hSw; (try obtain ⟨q0, q1, q2, q3, q4, q5, q6, q7, q8, q9⟩ := hSw); simp only [List.getElem_toArray, List.getElem_cons_zero, List.getElem_cons_succ]; go_simp; try (with_reducible rfl))
      simp only [List.getElem_toArray, List.getElem_cons_zero, List.getElem_cons_succ, Act.put, List.setIfInBounds_toArray, List.set_cons_zero, List.set_cons_succ]
      refine wpAnyT_one (i := 6) rfl (by kernel_rfl) (by rfl) ?_
      simp only [List.getElem_toArray, List.getElem_cons_zero, List.getElem_cons_succ]
      go_simp
      generalize hw15 : x14.alloc (.cells #[.int .i64 kd, .int .i64 id, .int .i64 pa, .int .i64 bf, .int .i64 ky, .string tg, .string nm, .string tx] 43) = x15
      have hb15 : Below x14.heap.size x14 x15 := by rw [← hw15]; exact (Below.refl _ _).alloc (Nat.le_refl _) _
      have hs15 : x15.heap.size = x14.heap.size + 1 := by rw [← hw15]; simp
      have hnews : ∀ a, some (⟨x14.heap.size, 0, none⟩ : Addr) = some a → ∀ i u, [.int .i64 kd, .int .i64 id, .int .i64 pa, .int .i64 bf, .int .i64 ky, .string tg, .string nm, .string tx][i]? = some u → x15.drew.cell? (a.add i) = some u := by
        rw [← hw15]
        exact cells_new x14 #[.int .i64 kd, .int .i64 id, .int .i64 pa, .int .i64 bf, .int .i64 ky, .string tg, .string nm, .string tx] 43
      have HB15 : Hid (Below wr.heap.size wr x15.drew) := hide ((HB14.out.trans (hb15.mono (Nat.le_of_lt s14))).drew)
      have d15_0 : x15.cell? ⟨wr.heap.size, 0, none⟩ = some (.int .i64 kd) := (hb15.cell (p := ⟨wr.heap.size, 0, none⟩) s14).trans d14_0
      have d15_1 : x15.cell? ⟨wr.heap.size, 1, none⟩ = some (.int .i64 id) := (hb15.cell (p := ⟨wr.heap.size, 1, none⟩) s14).trans d14_1
      have d15_2 : x15.cell? ⟨wr.heap.size, 2, none⟩ = some (.int .i64 pa) := (hb15.cell (p := ⟨wr.heap.size, 2, none⟩) s14).trans d14_2
      have d15_3 : x15.cell? ⟨wr.heap.size, 3, none⟩ = some (.int .i64 bf) := (hb15.cell (p := ⟨wr.heap.size, 3, none⟩) s14).trans d14_3
      have d15_4 : x15.cell? ⟨wr.heap.size, 4, none⟩ = some (.int .i64 ky) := (hb15.cell (p := ⟨wr.heap.size, 4, none⟩) s14).trans d14_4
      have d15_5 : x15.cell? ⟨wr.heap.size, 5, none⟩ = some (.string tg) := (hb15.cell (p := ⟨wr.heap.size, 5, none⟩) s14).trans d14_5
      have d15_6 : x15.cell? ⟨wr.heap.size, 6, none⟩ = some (.string nm) := (hb15.cell (p := ⟨wr.heap.size, 6, none⟩) s14).trans d14_6
      have d15_7 : x15.cell? ⟨wr.heap.size, 7, none⟩ = some (.string tx) := (hb15.cell (p := ⟨wr.heap.size, 7, none⟩) s14).trans d14_7
      have p15 : x15.cell? ⟨WB, 0, none⟩ = some (.slice pa0 P.length pc0) := (hb15.cell (p := ⟨WB, 0, none⟩) (Nat.lt_trans hWl s14)).trans p0
      have f15 : x15.frozen? ⟨WB, 0, none⟩ = false := (hb15.frozen (p := ⟨WB, 0, none⟩) (Nat.lt_trans hWl s14)).trans p1
      refine ⟨.inr ⟨f15, p15⟩, ?_⟩
      have hrow15 := hide (ownsRow_below H.out.row HB15.out)
      have s15 : wr.heap.size < x15.heap.size := by omega
      clear hw15 hb15 hS0 p0 p1
      clear d14_0 d14_1 d14_2 d14_3 d14_4 d14_5 d14_6 d14_7
      try simp only [Act.put, List.setIfInBounds_toArray, List.set_cons_zero, List.set_cons_succ]
      refine wpAnyT_one (i := 7) rfl (by kernel_rfl) (by rfl) ?_
      simp only [List.getElem_toArray, List.getElem_cons_zero, List.getElem_cons_succ]
      refine wp_app x15.drew _ _ 36 (by rfl) B 43 i0 _ 8 88 Try.underlying36 hi hz0 hz1 hz2 rfl (.slice pa0 P.length pc0) P.length _ (by rfl) hrow15.out (some ⟨x14.heap.size, 0, none⟩) 1 1 [.int .i64 kd, .int .i64 id, .int .i64 pa, .int .i64 bf, .int .i64 ky, .string tg, .string nm, .string tx] (by rfl) (by simp) rfl hnews (by simp [Value.oneCell']) (by omega) (by omega) (by show B ≤ x15.heap.size; omega) ?_
      intro v2 x16 hrow16 hg16
      obtain ⟨a2, c2, rfl⟩ := own_shape hrow16
      have s16 : x15.heap.size ≤ x16.heap.size := hg16.size
      have hav : ∀ b, Value.ownBlock (.slice pa0 P.length pc0) = some b → b ≠ WB ∧ b < wr.heap.size := fun b e => ⟨H.out.apart b e, (H.out.row.lt b e).2⟩
      have hq16 : ∀ b, b < x15.heap.size → Value.ownBlock (.slice pa0 P.length pc0) ≠ some b → x16.heap[b]? = x15.heap[b]? := fun b hb hn => hg16.by.block b hb (fun e => hn e.symm)
      have hqW : x16.heap[WB]? = x15.heap[WB]? := hq16 WB (by omega) (fun e => (hav _ e).1 rfl)
      have hqr : x16.heap[wr.heap.size]? = x15.heap[wr.heap.size]? := hq16 _ s15 (fun e => Nat.lt_irrefl _ (hav _ e).2)
      have p16 := (World.cell?_of_block (w := x15) (a := ⟨WB, 0, none⟩) hqW).trans p15
      have f16 := (World.frozen?_of_block (w := x15) (a := ⟨WB, 0, none⟩) hqW).trans f15
      have d16_0 : x16.cell? ⟨wr.heap.size, 0, none⟩ = some (.int .i64 kd) := (World.cell?_of_block hqr).trans d15_0
      have d16_1 : x16.cell? ⟨wr.heap.size, 1, none⟩ = some (.int .i64 id) := (World.cell?_of_block hqr).trans d15_1
      have d16_2 : x16.cell? ⟨wr.heap.size, 2, none⟩ = some (.int .i64 pa) := (World.cell?_of_block hqr).trans d15_2
      have d16_3 : x16.cell? ⟨wr.heap.size, 3, none⟩ = some (.int .i64 bf) := (World.cell?_of_block hqr).trans d15_3
      have d16_4 : x16.cell? ⟨wr.heap.size, 4, none⟩ = some (.int .i64 ky) := (World.cell?_of_block hqr).trans d15_4
      have d16_5 : x16.cell? ⟨wr.heap.size, 5, none⟩ = some (.string tg) := (World.cell?_of_block hqr).trans d15_5
      have d16_6 : x16.cell? ⟨wr.heap.size, 6, none⟩ = some (.string nm) := (World.cell?_of_block hqr).trans d15_6
      have d16_7 : x16.cell? ⟨wr.heap.size, 7, none⟩ = some (.string tx) := (World.cell?_of_block hqr).trans d15_7
      refine ⟨.inr ⟨f16, p16, d16_0, d16_1, d16_2, d16_3, d16_4, d16_5, d16_6, d16_7⟩, ?_⟩
      clear d15_0 d15_1 d15_2 d15_3 d15_4 d15_5 d15_6 d15_7 hqr p15 f15 hnews hrow15
      have HR16 := hide hrow16
      have HG16 := hide hg16
      have HAv := hide hav
      have HQ16 := hide hq16
      have HQW := hide hqW
      clear hrow16 hg16 hav hq16 hqW
      try simp only [Act.put, List.setIfInBounds_toArray, List.set_cons_zero, List.set_cons_succ]
      refine wpAnyT_one (i := 8) rfl (by kernel_rfl) (by rfl) ?_
      simp only [List.getElem_toArray, List.getElem_cons_zero, List.getElem_cons_succ]
      go_simp
      refine wpAnyT_one (i := 9) rfl (by kernel_rfl) (by rfl) ?_
      simp only [List.getElem_toArray, List.getElem_cons_zero, List.getElem_cons_succ]
      go_simp
      refine wpAnyT_one (i := 10) rfl (by kernel_rfl) (by rfl) ?_
      simp only [List.getElem_toArray, List.getElem_cons_zero, List.getElem_cons_succ]
      go_simp
      refine ⟨by kernel_rfl, ?_⟩
      clear d16_0 d16_1 d16_2 d16_3 d16_4 d16_5 d16_6 d16_7
      refine wpAnyT_done (by kernel_rfl) ?_ _
      have hrn : ∀ b, Value.ownBlock (.slice a2 (P.length + 1) c2) = some b → Value.ownBlock (.slice pa0 P.length pc0) = some b ∨ x15.heap.size ≤ b := fun b e => by
        rcases HG16.out with ⟨e2, _⟩ | ⟨e2, _⟩
        · rw [e] at e2; exact .inl e2.symm
        · rw [e] at e2; have := Option.some.inj e2; exact .inr (by rw [this]; exact Nat.le_refl _)
      have hrw : ∀ b, Value.ownBlock (.slice a2 (P.length + 1) c2) = some b → b ≠ WB := fun b e => by
        rcases hrn b e with e2 | e2
        · exact (HAv.out b e2).1
        · omega
      have hfin : Hid (∃ pv', WayAt B (x16.setCell ⟨WB, 0, none⟩ (.slice a2 (P.length + 1) c2)) WB pv' (P ++ [⟨kd, id, pa, bf, ky, tg, nm, tx⟩]) last ∧ (∀ b, pv'.ownBlock = some b → Value.ownBlock (.slice pa0 P.length pc0) = some b ∨ wr.heap.size ≤ b) ∧ Touch (fun b => b = WB ∨ some b = Value.ownBlock (.slice pa0 P.length pc0)) wr (x16.setCell ⟨WB, 0, none⟩ (.slice a2 (P.length + 1) c2))) := by
        refine hide ⟨.slice a2 (P.length + 1) c2, ⟨World.cell?_setCell_same _ _ _ p16, (World.frozen?_setCell ..).trans f16, ?_, ?_, ?_, hrw, ?_⟩, ?_, ?_⟩
        · exact (World.cell?_setCell_other _ _ _ _ (fun e => by cases e)).trans ((World.cell?_of_block HQW.out).trans ((HB15.out.cell (p := ⟨WB, 1, none⟩) hWl).trans H.out.c1))
        · exact (World.frozen?_setCell ..).trans ((World.frozen?_of_block HQW.out).trans ((HB15.out.frozen (p := ⟨WB, 1, none⟩) hWl).trans H.out.f1))
        · rw [patsL_snoc, List.length_append]
          exact own_set HR16.out (.inr fun e => hrw WB e rfl)
        · rw [size_setCell']; omega
        · intro b e
          rcases hrn b e with e2 | e2
          · exact .inl e2
          · exact .inr (by omega)
        · refine ⟨HG16.out.by.os.trans HB15.out.os, HG16.out.by.tape.trans HB15.out.tape, HG16.out.by.output.trans HB15.out.output, by rw [size_setCell']; omega, fun b hb hn => ?_⟩
          rw [Below.heap_setCell _ _ _ _ (fun e => hn (.inl e)), HQ16.out b (by omega) fun e => hn (.inr e.symm)]
          exact HB15.out.block b hb
      generalize x16.setCell ⟨WB, 0, none⟩ (.slice a2 (P.length + 1) c2) = x17 at hfin
      go_wp2_with fail
      exact ⟨.inr ⟨rfl, hfin⟩, by decide⟩
    · go_wp2_with fail
      refine bodyPost_end (results_none rfl _ _ _) rfl ?_
      exact ⟨rfl, hE.out⟩
end Go.Proofs.Ytobgcaemnpkbmaa
