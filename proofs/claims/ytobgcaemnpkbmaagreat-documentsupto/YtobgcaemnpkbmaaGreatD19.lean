/- Pdo -/
import Derived.Test.YtobgcaemnpkbmaaGreatD18
namespace Go.Proofs.YtobgcaemnpkbmaaGreat
open Go.RowKit
set_option maxHeartbeats 4000000 in
set_option maxRecDepth 100000 in
theorem pdo_not (q : Nat) (kd id pa bf ky : Int) (tg nm tx : ByteArray) (w : World) (hs : patB ⟨kd, id, pa, bf, ky, tg, nm, tx⟩ (needP ⟨kd, id, pa, bf, ky, tg, nm, tx⟩) = false) :
    Calls Tryz.prog 70 #[.pointer (some ⟨q, 0, none⟩), .agg #[.int .i64 kd, .int .i64 id, .int .i64 pa, .int .i64 bf, .int .i64 ky, .string tg, .string nm, .string tx]] w fun e w' => e = .returned (.bool false) ∧ Below w.heap.size w w' := by
  have HN : Hid (∀ w1, Calls Tryz.prog 85 #[.agg #[.int .i64 kd, .int .i64 id, .int .i64 pa, .int .i64 bf, .int .i64 ky, .string tg, .string nm, .string tx]] w1 fun e w' => e = .returned (needP ⟨kd, id, pa, bf, ky, tg, nm, tx⟩).val ∧ Below w1.heap.size w1 w') := hide fun w1 => needed_any ⟨kd, id, pa, bf, ky, tg, nm, tx⟩ w1
  have hq : ∀ w1, (binOp .neq 29 (.agg #[.int .i64 kd, .int .i64 id, .int .i64 pa, .int .i64 bf, .int .i64 ky, .string tg, .string nm, .string tx]) (needP ⟨kd, id, pa, bf, ky, tg, nm, tx⟩).val).run Tryz.prog w1 = .ok (.bool true) w1 := fun w1 => by
    have := run_neq_pat ⟨kd, id, pa, bf, ky, tg, nm, tx⟩ (needP ⟨kd, id, pa, bf, ky, tg, nm, tx⟩) w1
    rw [hs] at this
    exact this
  clear hs
  generalize needP ⟨kd, id, pa, bf, ky, tg, nm, tx⟩ = y at *
  obtain ⟨yk, yi, yp, yb, yy, yt, yn, yx⟩ := y
  simp only [Pat.val] at HN hq
  go_enter Tryz.func70, Tryz.ntmps70
  go_wp2_with fail
  generalize hw0 : w.alloc (.cells #[.int .i64 kd, .int .i64 id, .int .i64 pa, .int .i64 bf, .int .i64 ky, .string tg, .string nm, .string tx] 29) = w0
  have hb0 : Below w.heap.size w w0 := by rw [← hw0]; exact (Below.refl _ _).alloc (Nat.le_refl _) _
  have lt0 : w.heap.size < w0.heap.size := by rw [← hw0]; simp
  have x0 : w0.cell? ⟨w.heap.size, 0, none⟩ = some (.int .i64 kd) := by rw [← hw0]; simp [go_sem]
  have x1 : w0.cell? ⟨w.heap.size, 1, none⟩ = some (.int .i64 id) := by rw [← hw0]; simp [go_sem]
  have x2 : w0.cell? ⟨w.heap.size, 2, none⟩ = some (.int .i64 pa) := by rw [← hw0]; simp [go_sem]
  have x3 : w0.cell? ⟨w.heap.size, 3, none⟩ = some (.int .i64 bf) := by rw [← hw0]; simp [go_sem]
  have x4 : w0.cell? ⟨w.heap.size, 4, none⟩ = some (.int .i64 ky) := by rw [← hw0]; simp [go_sem]
  have x5 : w0.cell? ⟨w.heap.size, 5, none⟩ = some (.string tg) := by rw [← hw0]; simp [go_sem]
  have x6 : w0.cell? ⟨w.heap.size, 6, none⟩ = some (.string nm) := by rw [← hw0]; simp [go_sem]
  have x7 : w0.cell? ⟨w.heap.size, 7, none⟩ = some (.string tx) := by rw [← hw0]; simp [go_sem]
  have HB0 := hide hb0
  clear hw0 hb0
  go_region_held3 (fun w' => w'.cell? ⟨w.heap.size, 0, none⟩ = some (.int .i64 kd) ∧ w'.cell? ⟨w.heap.size, 1, none⟩ = some (.int .i64 id) ∧ w'.cell? ⟨w.heap.size, 2, none⟩ = some (.int .i64 pa) ∧ w'.cell? ⟨w.heap.size, 3, none⟩ = some (.int .i64 bf) ∧ w'.cell? ⟨w.heap.size, 4, none⟩ = some (.int .i64 ky) ∧ w'.cell? ⟨w.heap.size, 5, none⟩ = some (.string tg) ∧ w'.cell? ⟨w.heap.size, 6, none⟩ = some (.string nm) ∧ w'.cell? ⟨w.heap.size, 7, none⟩ = some (.string tx))
    (first
      | go_keep
      | (go_split_ands
         refine ⟨?_, ?_, ?_, ?_, ?_, ?_, ?_, ?_⟩
         all_goals (rw [hb6.cell (by simp; omega)]; assumption)))
    (first | (go_at_call 85; refine (unhide HN _).mono ?_; rintro e w6 ⟨rfl, hb6⟩))
  have HB6 : Hid (Below w.heap.size w w6) := hide ((unhide HB0).drew.trans ⟨hb6.os, hb6.tape, hb6.output, hb6.size, fun b hb => hb6.block b (by show b < w0.heap.size; omega)⟩)
  go_wp2_with fail
  go_ret
  exact ⟨rfl, unhide HB6⟩
set_option maxHeartbeats 4000000 in
set_option maxRecDepth 100000 in
theorem pdo_other (q : Nat) (kd id pa bf ky : Int) (tg nm tx : ByteArray) (w : World) (hs : patB ⟨kd, id, pa, bf, ky, tg, nm, tx⟩ (needP ⟨kd, id, pa, bf, ky, tg, nm, tx⟩) = true) (h1 : kd ≠ 1) (h2 : kd ≠ 2) (h3 : kd ≠ 3) (h4 : kd ≠ 4) (h5 : kd ≠ 5) (h6 : kd ≠ 6) :
    Calls Tryz.prog 70 #[.pointer (some ⟨q, 0, none⟩), .agg #[.int .i64 kd, .int .i64 id, .int .i64 pa, .int .i64 bf, .int .i64 ky, .string tg, .string nm, .string tx]] w fun e w' => e = .returned (.bool false) ∧ Below w.heap.size w w' := by
  have HN : Hid (∀ w1, Calls Tryz.prog 85 #[.agg #[.int .i64 kd, .int .i64 id, .int .i64 pa, .int .i64 bf, .int .i64 ky, .string tg, .string nm, .string tx]] w1 fun e w' => e = .returned (needP ⟨kd, id, pa, bf, ky, tg, nm, tx⟩).val ∧ Below w1.heap.size w1 w') := hide fun w1 => needed_any ⟨kd, id, pa, bf, ky, tg, nm, tx⟩ w1
  have hq : ∀ w1, (binOp .neq 29 (.agg #[.int .i64 kd, .int .i64 id, .int .i64 pa, .int .i64 bf, .int .i64 ky, .string tg, .string nm, .string tx]) (needP ⟨kd, id, pa, bf, ky, tg, nm, tx⟩).val).run Tryz.prog w1 = .ok (.bool false) w1 := fun w1 => by
    have := run_neq_pat ⟨kd, id, pa, bf, ky, tg, nm, tx⟩ (needP ⟨kd, id, pa, bf, ky, tg, nm, tx⟩) w1
    rw [hs] at this
    exact this
  clear hs
  generalize needP ⟨kd, id, pa, bf, ky, tg, nm, tx⟩ = y at *
  obtain ⟨yk, yi, yp, yb, yy, yt, yn, yx⟩ := y
  simp only [Pat.val] at HN hq
  go_enter Tryz.func70, Tryz.ntmps70
  go_wp2_with fail
  generalize hw0 : w.alloc (.cells #[.int .i64 kd, .int .i64 id, .int .i64 pa, .int .i64 bf, .int .i64 ky, .string tg, .string nm, .string tx] 29) = w0
  have hb0 : Below w.heap.size w w0 := by rw [← hw0]; exact (Below.refl _ _).alloc (Nat.le_refl _) _
  have lt0 : w.heap.size < w0.heap.size := by rw [← hw0]; simp
  have x0 : w0.cell? ⟨w.heap.size, 0, none⟩ = some (.int .i64 kd) := by rw [← hw0]; simp [go_sem]
  have x1 : w0.cell? ⟨w.heap.size, 1, none⟩ = some (.int .i64 id) := by rw [← hw0]; simp [go_sem]
  have x2 : w0.cell? ⟨w.heap.size, 2, none⟩ = some (.int .i64 pa) := by rw [← hw0]; simp [go_sem]
  have x3 : w0.cell? ⟨w.heap.size, 3, none⟩ = some (.int .i64 bf) := by rw [← hw0]; simp [go_sem]
  have x4 : w0.cell? ⟨w.heap.size, 4, none⟩ = some (.int .i64 ky) := by rw [← hw0]; simp [go_sem]
  have x5 : w0.cell? ⟨w.heap.size, 5, none⟩ = some (.string tg) := by rw [← hw0]; simp [go_sem]
  have x6 : w0.cell? ⟨w.heap.size, 6, none⟩ = some (.string nm) := by rw [← hw0]; simp [go_sem]
  have x7 : w0.cell? ⟨w.heap.size, 7, none⟩ = some (.string tx) := by rw [← hw0]; simp [go_sem]
  have HB0 := hide hb0
  clear hw0 hb0
  go_region_held3 (fun w' => w'.cell? ⟨w.heap.size, 0, none⟩ = some (.int .i64 kd) ∧ w'.cell? ⟨w.heap.size, 1, none⟩ = some (.int .i64 id) ∧ w'.cell? ⟨w.heap.size, 2, none⟩ = some (.int .i64 pa) ∧ w'.cell? ⟨w.heap.size, 3, none⟩ = some (.int .i64 bf) ∧ w'.cell? ⟨w.heap.size, 4, none⟩ = some (.int .i64 ky) ∧ w'.cell? ⟨w.heap.size, 5, none⟩ = some (.string tg) ∧ w'.cell? ⟨w.heap.size, 6, none⟩ = some (.string nm) ∧ w'.cell? ⟨w.heap.size, 7, none⟩ = some (.string tx))
    (first
      | go_keep
      | (go_split_ands
         refine ⟨?_, ?_, ?_, ?_, ?_, ?_, ?_, ?_⟩
         all_goals (rw [hb6.cell (by simp; omega)]; assumption)))
    (first | (go_at_call 85; refine (unhide HN _).mono ?_; rintro e w6 ⟨rfl, hb6⟩))
  have HB6 : Hid (Below w.heap.size w w6) := hide ((unhide HB0).drew.trans ⟨hb6.os, hb6.tape, hb6.output, hb6.size, fun b hb => hb6.block b (by show b < w0.heap.size; omega)⟩)
  have z0 : w6.cell? ⟨w.heap.size, 0, none⟩ = some (.int .i64 kd) := (hb6.cell (p := ⟨w.heap.size, 0, none⟩) (by simp; omega)).trans x0
  go_wp2_with fail
  go_ret
  exact ⟨rfl, unhide HB6⟩
set_option maxHeartbeats 4000000 in
set_option maxRecDepth 100000 in
theorem pdo_create (q : Nat) (id pa bf ky : Int) (tg nm tx : ByteArray) (w : World) (hs : patB ⟨1, id, pa, bf, ky, tg, nm, tx⟩ (needP ⟨1, id, pa, bf, ky, tg, nm, tx⟩) = true) (Q : Bool → World → Prop) (HC : ∀ w1, Below w.heap.size w w1 → Calls Tryz.prog 86 #[.pointer (some ⟨q, 0, none⟩), .agg #[.int .i64 1, .int .i64 id, .int .i64 pa, .int .i64 bf, .int .i64 ky, .string tg, .string nm, .string tx]] w1 fun e w' => ∃ b, e = .returned (.bool b) ∧ Q b w') :
    Calls Tryz.prog 70 #[.pointer (some ⟨q, 0, none⟩), .agg #[.int .i64 1, .int .i64 id, .int .i64 pa, .int .i64 bf, .int .i64 ky, .string tg, .string nm, .string tx]] w fun e w' => ∃ b, e = .returned (.bool b) ∧ Q b w' := by
  have HN : Hid (∀ w1, Calls Tryz.prog 85 #[.agg #[.int .i64 1, .int .i64 id, .int .i64 pa, .int .i64 bf, .int .i64 ky, .string tg, .string nm, .string tx]] w1 fun e w' => e = .returned (needP ⟨1, id, pa, bf, ky, tg, nm, tx⟩).val ∧ Below w1.heap.size w1 w') := hide fun w1 => needed_any ⟨1, id, pa, bf, ky, tg, nm, tx⟩ w1
  have hq : ∀ w1, (binOp .neq 29 (.agg #[.int .i64 1, .int .i64 id, .int .i64 pa, .int .i64 bf, .int .i64 ky, .string tg, .string nm, .string tx]) (needP ⟨1, id, pa, bf, ky, tg, nm, tx⟩).val).run Tryz.prog w1 = .ok (.bool false) w1 := fun w1 => by
    have := run_neq_pat ⟨1, id, pa, bf, ky, tg, nm, tx⟩ (needP ⟨1, id, pa, bf, ky, tg, nm, tx⟩) w1
    rw [hs] at this
    exact this
  clear hs
  generalize needP ⟨1, id, pa, bf, ky, tg, nm, tx⟩ = y at *
  obtain ⟨yk, yi, yp, yb, yy, yt, yn, yx⟩ := y
  simp only [Pat.val] at HN hq
  have HCall := hide HC
  clear HC
  go_enter Tryz.func70, Tryz.ntmps70
  go_wp2_with fail
  generalize hw0 : w.alloc (.cells #[.int .i64 1, .int .i64 id, .int .i64 pa, .int .i64 bf, .int .i64 ky, .string tg, .string nm, .string tx] 29) = w0
  have hb0 : Below w.heap.size w w0 := by rw [← hw0]; exact (Below.refl _ _).alloc (Nat.le_refl _) _
  have lt0 : w.heap.size < w0.heap.size := by rw [← hw0]; simp
  have x0 : w0.cell? ⟨w.heap.size, 0, none⟩ = some (.int .i64 1) := by rw [← hw0]; simp [go_sem]
  have x1 : w0.cell? ⟨w.heap.size, 1, none⟩ = some (.int .i64 id) := by rw [← hw0]; simp [go_sem]
  have x2 : w0.cell? ⟨w.heap.size, 2, none⟩ = some (.int .i64 pa) := by rw [← hw0]; simp [go_sem]
  have x3 : w0.cell? ⟨w.heap.size, 3, none⟩ = some (.int .i64 bf) := by rw [← hw0]; simp [go_sem]
  have x4 : w0.cell? ⟨w.heap.size, 4, none⟩ = some (.int .i64 ky) := by rw [← hw0]; simp [go_sem]
  have x5 : w0.cell? ⟨w.heap.size, 5, none⟩ = some (.string tg) := by rw [← hw0]; simp [go_sem]
  have x6 : w0.cell? ⟨w.heap.size, 6, none⟩ = some (.string nm) := by rw [← hw0]; simp [go_sem]
  have x7 : w0.cell? ⟨w.heap.size, 7, none⟩ = some (.string tx) := by rw [← hw0]; simp [go_sem]
  have HB0 := hide hb0
  clear hw0 hb0
  go_region_held3 (fun w' => w'.cell? ⟨w.heap.size, 0, none⟩ = some (.int .i64 1) ∧ w'.cell? ⟨w.heap.size, 1, none⟩ = some (.int .i64 id) ∧ w'.cell? ⟨w.heap.size, 2, none⟩ = some (.int .i64 pa) ∧ w'.cell? ⟨w.heap.size, 3, none⟩ = some (.int .i64 bf) ∧ w'.cell? ⟨w.heap.size, 4, none⟩ = some (.int .i64 ky) ∧ w'.cell? ⟨w.heap.size, 5, none⟩ = some (.string tg) ∧ w'.cell? ⟨w.heap.size, 6, none⟩ = some (.string nm) ∧ w'.cell? ⟨w.heap.size, 7, none⟩ = some (.string tx))
    (first
      | go_keep
      | (go_split_ands
         refine ⟨?_, ?_, ?_, ?_, ?_, ?_, ?_, ?_⟩
         all_goals (rw [hb6.cell (by simp; omega)]; assumption)))
    (first | (go_at_call 85; refine (unhide HN _).mono ?_; rintro e w6 ⟨rfl, hb6⟩))
  have HB6 : Hid (Below w.heap.size w w6) := hide ((unhide HB0).drew.trans ⟨hb6.os, hb6.tape, hb6.output, hb6.size, fun b hb => hb6.block b (by show b < w0.heap.size; omega)⟩)
  have z0 : w6.cell? ⟨w.heap.size, 0, none⟩ = some (.int .i64 1) := (hb6.cell (p := ⟨w.heap.size, 0, none⟩) (by simp; omega)).trans x0
  have z1 : w6.cell? ⟨w.heap.size, 1, none⟩ = some (.int .i64 id) := (hb6.cell (p := ⟨w.heap.size, 1, none⟩) (by simp; omega)).trans x1
  have z2 : w6.cell? ⟨w.heap.size, 2, none⟩ = some (.int .i64 pa) := (hb6.cell (p := ⟨w.heap.size, 2, none⟩) (by simp; omega)).trans x2
  have z3 : w6.cell? ⟨w.heap.size, 3, none⟩ = some (.int .i64 bf) := (hb6.cell (p := ⟨w.heap.size, 3, none⟩) (by simp; omega)).trans x3
  have z4 : w6.cell? ⟨w.heap.size, 4, none⟩ = some (.int .i64 ky) := (hb6.cell (p := ⟨w.heap.size, 4, none⟩) (by simp; omega)).trans x4
  have z5 : w6.cell? ⟨w.heap.size, 5, none⟩ = some (.string tg) := (hb6.cell (p := ⟨w.heap.size, 5, none⟩) (by simp; omega)).trans x5
  have z6 : w6.cell? ⟨w.heap.size, 6, none⟩ = some (.string nm) := (hb6.cell (p := ⟨w.heap.size, 6, none⟩) (by simp; omega)).trans x6
  have z7 : w6.cell? ⟨w.heap.size, 7, none⟩ = some (.string tx) := (hb6.cell (p := ⟨w.heap.size, 7, none⟩) (by simp; omega)).trans x7
  clear hb6
  have HC6 := hide (unhide HCall w6 (unhide HB6))
  go_wp2_with (first | (go_at_call 86; refine (unhide HC6).mono ?_; rintro e w7 ⟨b, rfl, hb⟩))
  go_ret
  exact ⟨b, rfl, hb⟩
set_option maxHeartbeats 4000000 in
set_option maxRecDepth 100000 in
theorem pdo_insert (q : Nat) (id pa bf ky : Int) (tg nm tx : ByteArray) (w : World) (hs : patB ⟨2, id, pa, bf, ky, tg, nm, tx⟩ (needP ⟨2, id, pa, bf, ky, tg, nm, tx⟩) = true) (Q : Bool → World → Prop) (HC : ∀ w1, Below w.heap.size w w1 → Calls Tryz.prog 87 #[.pointer (some ⟨q, 0, none⟩), .agg #[.int .i64 2, .int .i64 id, .int .i64 pa, .int .i64 bf, .int .i64 ky, .string tg, .string nm, .string tx]] w1 fun e w' => ∃ b, e = .returned (.bool b) ∧ Q b w') :
    Calls Tryz.prog 70 #[.pointer (some ⟨q, 0, none⟩), .agg #[.int .i64 2, .int .i64 id, .int .i64 pa, .int .i64 bf, .int .i64 ky, .string tg, .string nm, .string tx]] w fun e w' => ∃ b, e = .returned (.bool b) ∧ Q b w' := by
  have HN : Hid (∀ w1, Calls Tryz.prog 85 #[.agg #[.int .i64 2, .int .i64 id, .int .i64 pa, .int .i64 bf, .int .i64 ky, .string tg, .string nm, .string tx]] w1 fun e w' => e = .returned (needP ⟨2, id, pa, bf, ky, tg, nm, tx⟩).val ∧ Below w1.heap.size w1 w') := hide fun w1 => needed_any ⟨2, id, pa, bf, ky, tg, nm, tx⟩ w1
  have hq : ∀ w1, (binOp .neq 29 (.agg #[.int .i64 2, .int .i64 id, .int .i64 pa, .int .i64 bf, .int .i64 ky, .string tg, .string nm, .string tx]) (needP ⟨2, id, pa, bf, ky, tg, nm, tx⟩).val).run Tryz.prog w1 = .ok (.bool false) w1 := fun w1 => by
    have := run_neq_pat ⟨2, id, pa, bf, ky, tg, nm, tx⟩ (needP ⟨2, id, pa, bf, ky, tg, nm, tx⟩) w1
    rw [hs] at this
    exact this
  clear hs
  generalize needP ⟨2, id, pa, bf, ky, tg, nm, tx⟩ = y at *
  obtain ⟨yk, yi, yp, yb, yy, yt, yn, yx⟩ := y
  simp only [Pat.val] at HN hq
  have HCall := hide HC
  clear HC
  go_enter Tryz.func70, Tryz.ntmps70
  go_wp2_with fail
  generalize hw0 : w.alloc (.cells #[.int .i64 2, .int .i64 id, .int .i64 pa, .int .i64 bf, .int .i64 ky, .string tg, .string nm, .string tx] 29) = w0
  have hb0 : Below w.heap.size w w0 := by rw [← hw0]; exact (Below.refl _ _).alloc (Nat.le_refl _) _
  have lt0 : w.heap.size < w0.heap.size := by rw [← hw0]; simp
  have x0 : w0.cell? ⟨w.heap.size, 0, none⟩ = some (.int .i64 2) := by rw [← hw0]; simp [go_sem]
  have x1 : w0.cell? ⟨w.heap.size, 1, none⟩ = some (.int .i64 id) := by rw [← hw0]; simp [go_sem]
  have x2 : w0.cell? ⟨w.heap.size, 2, none⟩ = some (.int .i64 pa) := by rw [← hw0]; simp [go_sem]
  have x3 : w0.cell? ⟨w.heap.size, 3, none⟩ = some (.int .i64 bf) := by rw [← hw0]; simp [go_sem]
  have x4 : w0.cell? ⟨w.heap.size, 4, none⟩ = some (.int .i64 ky) := by rw [← hw0]; simp [go_sem]
  have x5 : w0.cell? ⟨w.heap.size, 5, none⟩ = some (.string tg) := by rw [← hw0]; simp [go_sem]
  have x6 : w0.cell? ⟨w.heap.size, 6, none⟩ = some (.string nm) := by rw [← hw0]; simp [go_sem]
  have x7 : w0.cell? ⟨w.heap.size, 7, none⟩ = some (.string tx) := by rw [← hw0]; simp [go_sem]
  have HB0 := hide hb0
  clear hw0 hb0
  go_region_held3 (fun w' => w'.cell? ⟨w.heap.size, 0, none⟩ = some (.int .i64 2) ∧ w'.cell? ⟨w.heap.size, 1, none⟩ = some (.int .i64 id) ∧ w'.cell? ⟨w.heap.size, 2, none⟩ = some (.int .i64 pa) ∧ w'.cell? ⟨w.heap.size, 3, none⟩ = some (.int .i64 bf) ∧ w'.cell? ⟨w.heap.size, 4, none⟩ = some (.int .i64 ky) ∧ w'.cell? ⟨w.heap.size, 5, none⟩ = some (.string tg) ∧ w'.cell? ⟨w.heap.size, 6, none⟩ = some (.string nm) ∧ w'.cell? ⟨w.heap.size, 7, none⟩ = some (.string tx))
    (first
      | go_keep
      | (go_split_ands
         refine ⟨?_, ?_, ?_, ?_, ?_, ?_, ?_, ?_⟩
         all_goals (rw [hb6.cell (by simp; omega)]; assumption)))
    (first | (go_at_call 85; refine (unhide HN _).mono ?_; rintro e w6 ⟨rfl, hb6⟩))
  have HB6 : Hid (Below w.heap.size w w6) := hide ((unhide HB0).drew.trans ⟨hb6.os, hb6.tape, hb6.output, hb6.size, fun b hb => hb6.block b (by show b < w0.heap.size; omega)⟩)
  have z0 : w6.cell? ⟨w.heap.size, 0, none⟩ = some (.int .i64 2) := (hb6.cell (p := ⟨w.heap.size, 0, none⟩) (by simp; omega)).trans x0
  have z1 : w6.cell? ⟨w.heap.size, 1, none⟩ = some (.int .i64 id) := (hb6.cell (p := ⟨w.heap.size, 1, none⟩) (by simp; omega)).trans x1
  have z2 : w6.cell? ⟨w.heap.size, 2, none⟩ = some (.int .i64 pa) := (hb6.cell (p := ⟨w.heap.size, 2, none⟩) (by simp; omega)).trans x2
  have z3 : w6.cell? ⟨w.heap.size, 3, none⟩ = some (.int .i64 bf) := (hb6.cell (p := ⟨w.heap.size, 3, none⟩) (by simp; omega)).trans x3
  have z4 : w6.cell? ⟨w.heap.size, 4, none⟩ = some (.int .i64 ky) := (hb6.cell (p := ⟨w.heap.size, 4, none⟩) (by simp; omega)).trans x4
  have z5 : w6.cell? ⟨w.heap.size, 5, none⟩ = some (.string tg) := (hb6.cell (p := ⟨w.heap.size, 5, none⟩) (by simp; omega)).trans x5
  have z6 : w6.cell? ⟨w.heap.size, 6, none⟩ = some (.string nm) := (hb6.cell (p := ⟨w.heap.size, 6, none⟩) (by simp; omega)).trans x6
  have z7 : w6.cell? ⟨w.heap.size, 7, none⟩ = some (.string tx) := (hb6.cell (p := ⟨w.heap.size, 7, none⟩) (by simp; omega)).trans x7
  clear hb6
  have HC6 := hide (unhide HCall w6 (unhide HB6))
  go_wp2_with (first | (go_at_call 87; refine (unhide HC6).mono ?_; rintro e w7 ⟨b, rfl, hb⟩))
  go_ret
  exact ⟨b, rfl, hb⟩
set_option maxHeartbeats 4000000 in
set_option maxRecDepth 100000 in
theorem pdo_remove (q : Nat) (id pa bf ky : Int) (tg nm tx : ByteArray) (w : World) (hs : patB ⟨3, id, pa, bf, ky, tg, nm, tx⟩ (needP ⟨3, id, pa, bf, ky, tg, nm, tx⟩) = true) (Q : Bool → World → Prop) (HC : ∀ w1, Below w.heap.size w w1 → Calls Tryz.prog 88 #[.pointer (some ⟨q, 0, none⟩), .agg #[.int .i64 3, .int .i64 id, .int .i64 pa, .int .i64 bf, .int .i64 ky, .string tg, .string nm, .string tx]] w1 fun e w' => ∃ b, e = .returned (.bool b) ∧ Q b w') :
    Calls Tryz.prog 70 #[.pointer (some ⟨q, 0, none⟩), .agg #[.int .i64 3, .int .i64 id, .int .i64 pa, .int .i64 bf, .int .i64 ky, .string tg, .string nm, .string tx]] w fun e w' => ∃ b, e = .returned (.bool b) ∧ Q b w' := by
  have HN : Hid (∀ w1, Calls Tryz.prog 85 #[.agg #[.int .i64 3, .int .i64 id, .int .i64 pa, .int .i64 bf, .int .i64 ky, .string tg, .string nm, .string tx]] w1 fun e w' => e = .returned (needP ⟨3, id, pa, bf, ky, tg, nm, tx⟩).val ∧ Below w1.heap.size w1 w') := hide fun w1 => needed_any ⟨3, id, pa, bf, ky, tg, nm, tx⟩ w1
  have hq : ∀ w1, (binOp .neq 29 (.agg #[.int .i64 3, .int .i64 id, .int .i64 pa, .int .i64 bf, .int .i64 ky, .string tg, .string nm, .string tx]) (needP ⟨3, id, pa, bf, ky, tg, nm, tx⟩).val).run Tryz.prog w1 = .ok (.bool false) w1 := fun w1 => by
    have := run_neq_pat ⟨3, id, pa, bf, ky, tg, nm, tx⟩ (needP ⟨3, id, pa, bf, ky, tg, nm, tx⟩) w1
    rw [hs] at this
    exact this
  clear hs
  generalize needP ⟨3, id, pa, bf, ky, tg, nm, tx⟩ = y at *
  obtain ⟨yk, yi, yp, yb, yy, yt, yn, yx⟩ := y
  simp only [Pat.val] at HN hq
  have HCall := hide HC
  clear HC
  go_enter Tryz.func70, Tryz.ntmps70
  go_wp2_with fail
  generalize hw0 : w.alloc (.cells #[.int .i64 3, .int .i64 id, .int .i64 pa, .int .i64 bf, .int .i64 ky, .string tg, .string nm, .string tx] 29) = w0
  have hb0 : Below w.heap.size w w0 := by rw [← hw0]; exact (Below.refl _ _).alloc (Nat.le_refl _) _
  have lt0 : w.heap.size < w0.heap.size := by rw [← hw0]; simp
  have x0 : w0.cell? ⟨w.heap.size, 0, none⟩ = some (.int .i64 3) := by rw [← hw0]; simp [go_sem]
  have x1 : w0.cell? ⟨w.heap.size, 1, none⟩ = some (.int .i64 id) := by rw [← hw0]; simp [go_sem]
  have x2 : w0.cell? ⟨w.heap.size, 2, none⟩ = some (.int .i64 pa) := by rw [← hw0]; simp [go_sem]
  have x3 : w0.cell? ⟨w.heap.size, 3, none⟩ = some (.int .i64 bf) := by rw [← hw0]; simp [go_sem]
  have x4 : w0.cell? ⟨w.heap.size, 4, none⟩ = some (.int .i64 ky) := by rw [← hw0]; simp [go_sem]
  have x5 : w0.cell? ⟨w.heap.size, 5, none⟩ = some (.string tg) := by rw [← hw0]; simp [go_sem]
  have x6 : w0.cell? ⟨w.heap.size, 6, none⟩ = some (.string nm) := by rw [← hw0]; simp [go_sem]
  have x7 : w0.cell? ⟨w.heap.size, 7, none⟩ = some (.string tx) := by rw [← hw0]; simp [go_sem]
  have HB0 := hide hb0
  clear hw0 hb0
  go_region_held3 (fun w' => w'.cell? ⟨w.heap.size, 0, none⟩ = some (.int .i64 3) ∧ w'.cell? ⟨w.heap.size, 1, none⟩ = some (.int .i64 id) ∧ w'.cell? ⟨w.heap.size, 2, none⟩ = some (.int .i64 pa) ∧ w'.cell? ⟨w.heap.size, 3, none⟩ = some (.int .i64 bf) ∧ w'.cell? ⟨w.heap.size, 4, none⟩ = some (.int .i64 ky) ∧ w'.cell? ⟨w.heap.size, 5, none⟩ = some (.string tg) ∧ w'.cell? ⟨w.heap.size, 6, none⟩ = some (.string nm) ∧ w'.cell? ⟨w.heap.size, 7, none⟩ = some (.string tx))
    (first
      | go_keep
      | (go_split_ands
         refine ⟨?_, ?_, ?_, ?_, ?_, ?_, ?_, ?_⟩
         all_goals (rw [hb6.cell (by simp; omega)]; assumption)))
    (first | (go_at_call 85; refine (unhide HN _).mono ?_; rintro e w6 ⟨rfl, hb6⟩))
  have HB6 : Hid (Below w.heap.size w w6) := hide ((unhide HB0).drew.trans ⟨hb6.os, hb6.tape, hb6.output, hb6.size, fun b hb => hb6.block b (by show b < w0.heap.size; omega)⟩)
  have z0 : w6.cell? ⟨w.heap.size, 0, none⟩ = some (.int .i64 3) := (hb6.cell (p := ⟨w.heap.size, 0, none⟩) (by simp; omega)).trans x0
  have z1 : w6.cell? ⟨w.heap.size, 1, none⟩ = some (.int .i64 id) := (hb6.cell (p := ⟨w.heap.size, 1, none⟩) (by simp; omega)).trans x1
  have z2 : w6.cell? ⟨w.heap.size, 2, none⟩ = some (.int .i64 pa) := (hb6.cell (p := ⟨w.heap.size, 2, none⟩) (by simp; omega)).trans x2
  have z3 : w6.cell? ⟨w.heap.size, 3, none⟩ = some (.int .i64 bf) := (hb6.cell (p := ⟨w.heap.size, 3, none⟩) (by simp; omega)).trans x3
  have z4 : w6.cell? ⟨w.heap.size, 4, none⟩ = some (.int .i64 ky) := (hb6.cell (p := ⟨w.heap.size, 4, none⟩) (by simp; omega)).trans x4
  have z5 : w6.cell? ⟨w.heap.size, 5, none⟩ = some (.string tg) := (hb6.cell (p := ⟨w.heap.size, 5, none⟩) (by simp; omega)).trans x5
  have z6 : w6.cell? ⟨w.heap.size, 6, none⟩ = some (.string nm) := (hb6.cell (p := ⟨w.heap.size, 6, none⟩) (by simp; omega)).trans x6
  have z7 : w6.cell? ⟨w.heap.size, 7, none⟩ = some (.string tx) := (hb6.cell (p := ⟨w.heap.size, 7, none⟩) (by simp; omega)).trans x7
  clear hb6
  have HC6 := hide (unhide HCall w6 (unhide HB6))
  go_wp2_with (first | (go_at_call 88; refine (unhide HC6).mono ?_; rintro e w7 ⟨b, rfl, hb⟩))
  go_ret
  exact ⟨b, rfl, hb⟩
set_option maxHeartbeats 4000000 in
set_option maxRecDepth 100000 in
theorem pdo_set (q : Nat) (id pa bf ky : Int) (tg nm tx : ByteArray) (w : World) (hs : patB ⟨4, id, pa, bf, ky, tg, nm, tx⟩ (needP ⟨4, id, pa, bf, ky, tg, nm, tx⟩) = true) (Q : Bool → World → Prop) (HC : ∀ w1, Below w.heap.size w w1 → Calls Tryz.prog 89 #[.pointer (some ⟨q, 0, none⟩), .agg #[.int .i64 4, .int .i64 id, .int .i64 pa, .int .i64 bf, .int .i64 ky, .string tg, .string nm, .string tx]] w1 fun e w' => ∃ b, e = .returned (.bool b) ∧ Q b w') :
    Calls Tryz.prog 70 #[.pointer (some ⟨q, 0, none⟩), .agg #[.int .i64 4, .int .i64 id, .int .i64 pa, .int .i64 bf, .int .i64 ky, .string tg, .string nm, .string tx]] w fun e w' => ∃ b, e = .returned (.bool b) ∧ Q b w' := by
  have HN : Hid (∀ w1, Calls Tryz.prog 85 #[.agg #[.int .i64 4, .int .i64 id, .int .i64 pa, .int .i64 bf, .int .i64 ky, .string tg, .string nm, .string tx]] w1 fun e w' => e = .returned (needP ⟨4, id, pa, bf, ky, tg, nm, tx⟩).val ∧ Below w1.heap.size w1 w') := hide fun w1 => needed_any ⟨4, id, pa, bf, ky, tg, nm, tx⟩ w1
  have hq : ∀ w1, (binOp .neq 29 (.agg #[.int .i64 4, .int .i64 id, .int .i64 pa, .int .i64 bf, .int .i64 ky, .string tg, .string nm, .string tx]) (needP ⟨4, id, pa, bf, ky, tg, nm, tx⟩).val).run Tryz.prog w1 = .ok (.bool false) w1 := fun w1 => by
    have := run_neq_pat ⟨4, id, pa, bf, ky, tg, nm, tx⟩ (needP ⟨4, id, pa, bf, ky, tg, nm, tx⟩) w1
    rw [hs] at this
    exact this
  clear hs
  generalize needP ⟨4, id, pa, bf, ky, tg, nm, tx⟩ = y at *
  obtain ⟨yk, yi, yp, yb, yy, yt, yn, yx⟩ := y
  simp only [Pat.val] at HN hq
  have HCall := hide HC
  clear HC
  go_enter Tryz.func70, Tryz.ntmps70
  go_wp2_with fail
  generalize hw0 : w.alloc (.cells #[.int .i64 4, .int .i64 id, .int .i64 pa, .int .i64 bf, .int .i64 ky, .string tg, .string nm, .string tx] 29) = w0
  have hb0 : Below w.heap.size w w0 := by rw [← hw0]; exact (Below.refl _ _).alloc (Nat.le_refl _) _
  have lt0 : w.heap.size < w0.heap.size := by rw [← hw0]; simp
  have x0 : w0.cell? ⟨w.heap.size, 0, none⟩ = some (.int .i64 4) := by rw [← hw0]; simp [go_sem]
  have x1 : w0.cell? ⟨w.heap.size, 1, none⟩ = some (.int .i64 id) := by rw [← hw0]; simp [go_sem]
  have x2 : w0.cell? ⟨w.heap.size, 2, none⟩ = some (.int .i64 pa) := by rw [← hw0]; simp [go_sem]
  have x3 : w0.cell? ⟨w.heap.size, 3, none⟩ = some (.int .i64 bf) := by rw [← hw0]; simp [go_sem]
  have x4 : w0.cell? ⟨w.heap.size, 4, none⟩ = some (.int .i64 ky) := by rw [← hw0]; simp [go_sem]
  have x5 : w0.cell? ⟨w.heap.size, 5, none⟩ = some (.string tg) := by rw [← hw0]; simp [go_sem]
  have x6 : w0.cell? ⟨w.heap.size, 6, none⟩ = some (.string nm) := by rw [← hw0]; simp [go_sem]
  have x7 : w0.cell? ⟨w.heap.size, 7, none⟩ = some (.string tx) := by rw [← hw0]; simp [go_sem]
  have HB0 := hide hb0
  clear hw0 hb0
  go_region_held3 (fun w' => w'.cell? ⟨w.heap.size, 0, none⟩ = some (.int .i64 4) ∧ w'.cell? ⟨w.heap.size, 1, none⟩ = some (.int .i64 id) ∧ w'.cell? ⟨w.heap.size, 2, none⟩ = some (.int .i64 pa) ∧ w'.cell? ⟨w.heap.size, 3, none⟩ = some (.int .i64 bf) ∧ w'.cell? ⟨w.heap.size, 4, none⟩ = some (.int .i64 ky) ∧ w'.cell? ⟨w.heap.size, 5, none⟩ = some (.string tg) ∧ w'.cell? ⟨w.heap.size, 6, none⟩ = some (.string nm) ∧ w'.cell? ⟨w.heap.size, 7, none⟩ = some (.string tx))
    (first
      | go_keep
      | (go_split_ands
         refine ⟨?_, ?_, ?_, ?_, ?_, ?_, ?_, ?_⟩
         all_goals (rw [hb6.cell (by simp; omega)]; assumption)))
    (first | (go_at_call 85; refine (unhide HN _).mono ?_; rintro e w6 ⟨rfl, hb6⟩))
  have HB6 : Hid (Below w.heap.size w w6) := hide ((unhide HB0).drew.trans ⟨hb6.os, hb6.tape, hb6.output, hb6.size, fun b hb => hb6.block b (by show b < w0.heap.size; omega)⟩)
  have z0 : w6.cell? ⟨w.heap.size, 0, none⟩ = some (.int .i64 4) := (hb6.cell (p := ⟨w.heap.size, 0, none⟩) (by simp; omega)).trans x0
  have z1 : w6.cell? ⟨w.heap.size, 1, none⟩ = some (.int .i64 id) := (hb6.cell (p := ⟨w.heap.size, 1, none⟩) (by simp; omega)).trans x1
  have z2 : w6.cell? ⟨w.heap.size, 2, none⟩ = some (.int .i64 pa) := (hb6.cell (p := ⟨w.heap.size, 2, none⟩) (by simp; omega)).trans x2
  have z3 : w6.cell? ⟨w.heap.size, 3, none⟩ = some (.int .i64 bf) := (hb6.cell (p := ⟨w.heap.size, 3, none⟩) (by simp; omega)).trans x3
  have z4 : w6.cell? ⟨w.heap.size, 4, none⟩ = some (.int .i64 ky) := (hb6.cell (p := ⟨w.heap.size, 4, none⟩) (by simp; omega)).trans x4
  have z5 : w6.cell? ⟨w.heap.size, 5, none⟩ = some (.string tg) := (hb6.cell (p := ⟨w.heap.size, 5, none⟩) (by simp; omega)).trans x5
  have z6 : w6.cell? ⟨w.heap.size, 6, none⟩ = some (.string nm) := (hb6.cell (p := ⟨w.heap.size, 6, none⟩) (by simp; omega)).trans x6
  have z7 : w6.cell? ⟨w.heap.size, 7, none⟩ = some (.string tx) := (hb6.cell (p := ⟨w.heap.size, 7, none⟩) (by simp; omega)).trans x7
  clear hb6
  have HC6 := hide (unhide HCall w6 (unhide HB6))
  go_wp2_with (first | (go_at_call 89; refine (unhide HC6).mono ?_; rintro e w7 ⟨b, rfl, hb⟩))
  go_ret
  exact ⟨b, rfl, hb⟩
set_option maxHeartbeats 4000000 in
set_option maxRecDepth 100000 in
theorem pdo_unset (q : Nat) (id pa bf ky : Int) (tg nm tx : ByteArray) (w : World) (hs : patB ⟨5, id, pa, bf, ky, tg, nm, tx⟩ (needP ⟨5, id, pa, bf, ky, tg, nm, tx⟩) = true) (Q : Bool → World → Prop) (HC : ∀ w1, Below w.heap.size w w1 → Calls Tryz.prog 90 #[.pointer (some ⟨q, 0, none⟩), .agg #[.int .i64 5, .int .i64 id, .int .i64 pa, .int .i64 bf, .int .i64 ky, .string tg, .string nm, .string tx]] w1 fun e w' => ∃ b, e = .returned (.bool b) ∧ Q b w') :
    Calls Tryz.prog 70 #[.pointer (some ⟨q, 0, none⟩), .agg #[.int .i64 5, .int .i64 id, .int .i64 pa, .int .i64 bf, .int .i64 ky, .string tg, .string nm, .string tx]] w fun e w' => ∃ b, e = .returned (.bool b) ∧ Q b w' := by
  have HN : Hid (∀ w1, Calls Tryz.prog 85 #[.agg #[.int .i64 5, .int .i64 id, .int .i64 pa, .int .i64 bf, .int .i64 ky, .string tg, .string nm, .string tx]] w1 fun e w' => e = .returned (needP ⟨5, id, pa, bf, ky, tg, nm, tx⟩).val ∧ Below w1.heap.size w1 w') := hide fun w1 => needed_any ⟨5, id, pa, bf, ky, tg, nm, tx⟩ w1
  have hq : ∀ w1, (binOp .neq 29 (.agg #[.int .i64 5, .int .i64 id, .int .i64 pa, .int .i64 bf, .int .i64 ky, .string tg, .string nm, .string tx]) (needP ⟨5, id, pa, bf, ky, tg, nm, tx⟩).val).run Tryz.prog w1 = .ok (.bool false) w1 := fun w1 => by
    have := run_neq_pat ⟨5, id, pa, bf, ky, tg, nm, tx⟩ (needP ⟨5, id, pa, bf, ky, tg, nm, tx⟩) w1
    rw [hs] at this
    exact this
  clear hs
  generalize needP ⟨5, id, pa, bf, ky, tg, nm, tx⟩ = y at *
  obtain ⟨yk, yi, yp, yb, yy, yt, yn, yx⟩ := y
  simp only [Pat.val] at HN hq
  have HCall := hide HC
  clear HC
  go_enter Tryz.func70, Tryz.ntmps70
  go_wp2_with fail
  generalize hw0 : w.alloc (.cells #[.int .i64 5, .int .i64 id, .int .i64 pa, .int .i64 bf, .int .i64 ky, .string tg, .string nm, .string tx] 29) = w0
  have hb0 : Below w.heap.size w w0 := by rw [← hw0]; exact (Below.refl _ _).alloc (Nat.le_refl _) _
  have lt0 : w.heap.size < w0.heap.size := by rw [← hw0]; simp
  have x0 : w0.cell? ⟨w.heap.size, 0, none⟩ = some (.int .i64 5) := by rw [← hw0]; simp [go_sem]
  have x1 : w0.cell? ⟨w.heap.size, 1, none⟩ = some (.int .i64 id) := by rw [← hw0]; simp [go_sem]
  have x2 : w0.cell? ⟨w.heap.size, 2, none⟩ = some (.int .i64 pa) := by rw [← hw0]; simp [go_sem]
  have x3 : w0.cell? ⟨w.heap.size, 3, none⟩ = some (.int .i64 bf) := by rw [← hw0]; simp [go_sem]
  have x4 : w0.cell? ⟨w.heap.size, 4, none⟩ = some (.int .i64 ky) := by rw [← hw0]; simp [go_sem]
  have x5 : w0.cell? ⟨w.heap.size, 5, none⟩ = some (.string tg) := by rw [← hw0]; simp [go_sem]
  have x6 : w0.cell? ⟨w.heap.size, 6, none⟩ = some (.string nm) := by rw [← hw0]; simp [go_sem]
  have x7 : w0.cell? ⟨w.heap.size, 7, none⟩ = some (.string tx) := by rw [← hw0]; simp [go_sem]
  have HB0 := hide hb0
  clear hw0 hb0
  go_region_held3 (fun w' => w'.cell? ⟨w.heap.size, 0, none⟩ = some (.int .i64 5) ∧ w'.cell? ⟨w.heap.size, 1, none⟩ = some (.int .i64 id) ∧ w'.cell? ⟨w.heap.size, 2, none⟩ = some (.int .i64 pa) ∧ w'.cell? ⟨w.heap.size, 3, none⟩ = some (.int .i64 bf) ∧ w'.cell? ⟨w.heap.size, 4, none⟩ = some (.int .i64 ky) ∧ w'.cell? ⟨w.heap.size, 5, none⟩ = some (.string tg) ∧ w'.cell? ⟨w.heap.size, 6, none⟩ = some (.string nm) ∧ w'.cell? ⟨w.heap.size, 7, none⟩ = some (.string tx))
    (first
      | go_keep
      | (go_split_ands
         refine ⟨?_, ?_, ?_, ?_, ?_, ?_, ?_, ?_⟩
         all_goals (rw [hb6.cell (by simp; omega)]; assumption)))
    (first | (go_at_call 85; refine (unhide HN _).mono ?_; rintro e w6 ⟨rfl, hb6⟩))
  have HB6 : Hid (Below w.heap.size w w6) := hide ((unhide HB0).drew.trans ⟨hb6.os, hb6.tape, hb6.output, hb6.size, fun b hb => hb6.block b (by show b < w0.heap.size; omega)⟩)
  have z0 : w6.cell? ⟨w.heap.size, 0, none⟩ = some (.int .i64 5) := (hb6.cell (p := ⟨w.heap.size, 0, none⟩) (by simp; omega)).trans x0
  have z1 : w6.cell? ⟨w.heap.size, 1, none⟩ = some (.int .i64 id) := (hb6.cell (p := ⟨w.heap.size, 1, none⟩) (by simp; omega)).trans x1
  have z2 : w6.cell? ⟨w.heap.size, 2, none⟩ = some (.int .i64 pa) := (hb6.cell (p := ⟨w.heap.size, 2, none⟩) (by simp; omega)).trans x2
  have z3 : w6.cell? ⟨w.heap.size, 3, none⟩ = some (.int .i64 bf) := (hb6.cell (p := ⟨w.heap.size, 3, none⟩) (by simp; omega)).trans x3
  have z4 : w6.cell? ⟨w.heap.size, 4, none⟩ = some (.int .i64 ky) := (hb6.cell (p := ⟨w.heap.size, 4, none⟩) (by simp; omega)).trans x4
  have z5 : w6.cell? ⟨w.heap.size, 5, none⟩ = some (.string tg) := (hb6.cell (p := ⟨w.heap.size, 5, none⟩) (by simp; omega)).trans x5
  have z6 : w6.cell? ⟨w.heap.size, 6, none⟩ = some (.string nm) := (hb6.cell (p := ⟨w.heap.size, 6, none⟩) (by simp; omega)).trans x6
  have z7 : w6.cell? ⟨w.heap.size, 7, none⟩ = some (.string tx) := (hb6.cell (p := ⟨w.heap.size, 7, none⟩) (by simp; omega)).trans x7
  clear hb6
  have HC6 := hide (unhide HCall w6 (unhide HB6))
  go_wp2_with (first | (go_at_call 90; refine (unhide HC6).mono ?_; rintro e w7 ⟨b, rfl, hb⟩))
  go_ret
  exact ⟨b, rfl, hb⟩
set_option maxHeartbeats 4000000 in
set_option maxRecDepth 100000 in
theorem pdo_write (q : Nat) (id pa bf ky : Int) (tg nm tx : ByteArray) (w : World) (hs : patB ⟨6, id, pa, bf, ky, tg, nm, tx⟩ (needP ⟨6, id, pa, bf, ky, tg, nm, tx⟩) = true) (Q : Bool → World → Prop) (HC : ∀ w1, Below w.heap.size w w1 → Calls Tryz.prog 91 #[.pointer (some ⟨q, 0, none⟩), .agg #[.int .i64 6, .int .i64 id, .int .i64 pa, .int .i64 bf, .int .i64 ky, .string tg, .string nm, .string tx]] w1 fun e w' => ∃ b, e = .returned (.bool b) ∧ Q b w') :
    Calls Tryz.prog 70 #[.pointer (some ⟨q, 0, none⟩), .agg #[.int .i64 6, .int .i64 id, .int .i64 pa, .int .i64 bf, .int .i64 ky, .string tg, .string nm, .string tx]] w fun e w' => ∃ b, e = .returned (.bool b) ∧ Q b w' := by
  have HN : Hid (∀ w1, Calls Tryz.prog 85 #[.agg #[.int .i64 6, .int .i64 id, .int .i64 pa, .int .i64 bf, .int .i64 ky, .string tg, .string nm, .string tx]] w1 fun e w' => e = .returned (needP ⟨6, id, pa, bf, ky, tg, nm, tx⟩).val ∧ Below w1.heap.size w1 w') := hide fun w1 => needed_any ⟨6, id, pa, bf, ky, tg, nm, tx⟩ w1
  have hq : ∀ w1, (binOp .neq 29 (.agg #[.int .i64 6, .int .i64 id, .int .i64 pa, .int .i64 bf, .int .i64 ky, .string tg, .string nm, .string tx]) (needP ⟨6, id, pa, bf, ky, tg, nm, tx⟩).val).run Tryz.prog w1 = .ok (.bool false) w1 := fun w1 => by
    have := run_neq_pat ⟨6, id, pa, bf, ky, tg, nm, tx⟩ (needP ⟨6, id, pa, bf, ky, tg, nm, tx⟩) w1
    rw [hs] at this
    exact this
  clear hs
  generalize needP ⟨6, id, pa, bf, ky, tg, nm, tx⟩ = y at *
  obtain ⟨yk, yi, yp, yb, yy, yt, yn, yx⟩ := y
  simp only [Pat.val] at HN hq
  have HCall := hide HC
  clear HC
  go_enter Tryz.func70, Tryz.ntmps70
  go_wp2_with fail
  generalize hw0 : w.alloc (.cells #[.int .i64 6, .int .i64 id, .int .i64 pa, .int .i64 bf, .int .i64 ky, .string tg, .string nm, .string tx] 29) = w0
  have hb0 : Below w.heap.size w w0 := by rw [← hw0]; exact (Below.refl _ _).alloc (Nat.le_refl _) _
  have lt0 : w.heap.size < w0.heap.size := by rw [← hw0]; simp
  have x0 : w0.cell? ⟨w.heap.size, 0, none⟩ = some (.int .i64 6) := by rw [← hw0]; simp [go_sem]
  have x1 : w0.cell? ⟨w.heap.size, 1, none⟩ = some (.int .i64 id) := by rw [← hw0]; simp [go_sem]
  have x2 : w0.cell? ⟨w.heap.size, 2, none⟩ = some (.int .i64 pa) := by rw [← hw0]; simp [go_sem]
  have x3 : w0.cell? ⟨w.heap.size, 3, none⟩ = some (.int .i64 bf) := by rw [← hw0]; simp [go_sem]
  have x4 : w0.cell? ⟨w.heap.size, 4, none⟩ = some (.int .i64 ky) := by rw [← hw0]; simp [go_sem]
  have x5 : w0.cell? ⟨w.heap.size, 5, none⟩ = some (.string tg) := by rw [← hw0]; simp [go_sem]
  have x6 : w0.cell? ⟨w.heap.size, 6, none⟩ = some (.string nm) := by rw [← hw0]; simp [go_sem]
  have x7 : w0.cell? ⟨w.heap.size, 7, none⟩ = some (.string tx) := by rw [← hw0]; simp [go_sem]
  have HB0 := hide hb0
  clear hw0 hb0
  go_region_held3 (fun w' => w'.cell? ⟨w.heap.size, 0, none⟩ = some (.int .i64 6) ∧ w'.cell? ⟨w.heap.size, 1, none⟩ = some (.int .i64 id) ∧ w'.cell? ⟨w.heap.size, 2, none⟩ = some (.int .i64 pa) ∧ w'.cell? ⟨w.heap.size, 3, none⟩ = some (.int .i64 bf) ∧ w'.cell? ⟨w.heap.size, 4, none⟩ = some (.int .i64 ky) ∧ w'.cell? ⟨w.heap.size, 5, none⟩ = some (.string tg) ∧ w'.cell? ⟨w.heap.size, 6, none⟩ = some (.string nm) ∧ w'.cell? ⟨w.heap.size, 7, none⟩ = some (.string tx))
    (first
      | go_keep
      | (go_split_ands
         refine ⟨?_, ?_, ?_, ?_, ?_, ?_, ?_, ?_⟩
         all_goals (rw [hb6.cell (by simp; omega)]; assumption)))
    (first | (go_at_call 85; refine (unhide HN _).mono ?_; rintro e w6 ⟨rfl, hb6⟩))
  have HB6 : Hid (Below w.heap.size w w6) := hide ((unhide HB0).drew.trans ⟨hb6.os, hb6.tape, hb6.output, hb6.size, fun b hb => hb6.block b (by show b < w0.heap.size; omega)⟩)
  have z0 : w6.cell? ⟨w.heap.size, 0, none⟩ = some (.int .i64 6) := (hb6.cell (p := ⟨w.heap.size, 0, none⟩) (by simp; omega)).trans x0
  have z1 : w6.cell? ⟨w.heap.size, 1, none⟩ = some (.int .i64 id) := (hb6.cell (p := ⟨w.heap.size, 1, none⟩) (by simp; omega)).trans x1
  have z2 : w6.cell? ⟨w.heap.size, 2, none⟩ = some (.int .i64 pa) := (hb6.cell (p := ⟨w.heap.size, 2, none⟩) (by simp; omega)).trans x2
  have z3 : w6.cell? ⟨w.heap.size, 3, none⟩ = some (.int .i64 bf) := (hb6.cell (p := ⟨w.heap.size, 3, none⟩) (by simp; omega)).trans x3
  have z4 : w6.cell? ⟨w.heap.size, 4, none⟩ = some (.int .i64 ky) := (hb6.cell (p := ⟨w.heap.size, 4, none⟩) (by simp; omega)).trans x4
  have z5 : w6.cell? ⟨w.heap.size, 5, none⟩ = some (.string tg) := (hb6.cell (p := ⟨w.heap.size, 5, none⟩) (by simp; omega)).trans x5
  have z6 : w6.cell? ⟨w.heap.size, 6, none⟩ = some (.string nm) := (hb6.cell (p := ⟨w.heap.size, 6, none⟩) (by simp; omega)).trans x6
  have z7 : w6.cell? ⟨w.heap.size, 7, none⟩ = some (.string tx) := (hb6.cell (p := ⟨w.heap.size, 7, none⟩) (by simp; omega)).trans x7
  clear hb6
  have HC6 := hide (unhide HCall w6 (unhide HB6))
  go_wp2_with (first | (go_at_call 91; refine (unhide HC6).mono ?_; rintro e w7 ⟨b, rfl, hb⟩))
  go_ret
  exact ⟨b, rfl, hb⟩
end Go.Proofs.YtobgcaemnpkbmaaGreat
