/- Ls Lt Ld -/
import Derived.Test.YtobgcaemnpkbmaaGreatD42
import Derived.Test.YtobgcaemnpkbmaaGreatD43
import Derived.Test.YtobgcaemnpkbmaaGreatD44
namespace Go.Proofs.YtobgcaemnpkbmaaGreat
open Go.RowKit
structure SOp where
  kind : Int
  at' : Int
  la : Option Addr
  ln : Nat
  lc : Nat
  L : Nat → Nod
  pa : Option Addr
  pn : Nat
  pc : Nat
  X : Nat → Pat
def SOp.cells (o : SOp) : Array Value := #[.int .i64 o.kind, .int .i64 o.at', .slice o.la o.ln o.lc, .slice o.pa o.pn o.pc]
def SOp.val (o : SOp) : Value := .agg o.cells
structure SOp.Ok (w : World) (o : SOp) : Prop where
  lst : ListIn w o.la o.ln o.L
  pat : PListAt w o.pa o.pn o.X
  len : o.pn * 88 ≤ 140737488351232
  few : o.pn ≤ 1048576
  px : ∀ i, i < o.pn → (o.X i).Ok ∧ (o.X i).Ints
  lo : -9223372036854775808 ≤ o.at'
  hi : o.at' ≤ 9223372036854775807
theorem ListIn.below {w w' : World} {ao : Option Addr} {n : Nat} {L : Nat → Nod} (h : ListIn w ao n L) (hb : Below w.heap.size w w') : ListIn w' ao n L := ⟨h.at'.below hb, h.inn, h.cap, h.len⟩
theorem SOp.Ok.below {w w' : World} {o : SOp} (h : o.Ok w) (hb : Below w.heap.size w w') : o.Ok w' := ⟨h.lst.below hb, h.pat.below hb, h.len, h.few, h.px, h.lo, h.hi⟩
theorem step_new (W0 : World) (own : Owns) (w : World) (wb : Nat) (Ps : List PD) (m : Nat) (k : Int) (h : LawOk W0 own w wb Ps m k) (hm : m ≤ 400000000) (hk : 400 ≤ k) (at' : Int) (la : Option Addr) (ln lc : Nat) (L : Nat → Nod) (pv : Value) (hl : ListIn w la ln L) (h0 : 0 < Ps.length) :
    Calls Tryz.prog 7 #[.pointer (some ⟨wb, 0, none⟩), .agg #[.int .i64 1, .int .i64 at', .slice la ln lc, pv]] w fun e w' => e = .returned (.bool true) ∧ ∃ own' Ps', 0 < Ps'.length ∧ LawOk W0 own' w' wb Ps' (m + 1) (k + 1048576) := by
  have HM : Hid (∀ w1, Below w.heap.size w w1 → Calls Tryz.prog 6 #[.pointer (some ⟨wb, 0, none⟩), .slice la ln lc] w1 fun e w' => e = .returned (.bool true) ∧ ∃ own' Ps', 0 < Ps'.length ∧ LawOk W0 own' w' wb Ps' (m + 1) (k + 1048576)) := hide fun w1 hb1 => by
    have h1 := h.below (Nat.le_refl m) (Int.le_refl k) hb1
    by_cases hz : (checkOut (mayB L) ln).1 = 0
    · refine (made_good W0 own w1 wb Ps m k h1 (by omega) hk la ln lc L (hl.below hb1) hz).mono ?_
      rintro e w' ⟨rfl, own', D, hlaw⟩
      exact ⟨rfl, own', _, by simp, hlaw.below (Nat.le_refl _) (by omega) (Below.refl _ _)⟩
    · refine (made_bad wb w1 la ln lc L (hl.below hb1) (by simpa [bne] using hz)).mono ?_
      rintro e w' ⟨rfl, hb⟩
      exact ⟨rfl, own, Ps, h0, h1.below (by omega) (by omega) hb⟩
  clear h hl
  go_enter Tryz.func7, Tryz.ntmps7
  go_wp2_with fail
  refine (unhide HM _ ((Below.refl _ _).alloc (Nat.le_refl _) _)).mono ?_
  rintro e w2 ⟨rfl, own', Ps', hl0, hlaw⟩
  go_wp2_with fail
  go_ret
  exact ⟨rfl, own', Ps', hl0, hlaw⟩
theorem ownsRow_form' {w : World} {base size n : Nat} {e : TypeId} {v : Value} {xs : List Value} (h : w.ownsRow base e size v n xs) (hn : 0 < n) : ∃ g cap, v = .slice (some ⟨g, 0, none⟩) n cap := by
  rcases h.2 with ⟨_, e⟩ | ⟨g, cap, cur, rfl, _, _, _⟩
  · omega
  · exact ⟨g, cap, rfl⟩
set_option maxHeartbeats 4000000 in
set_option maxRecDepth 100000 in
theorem step_tree (W0 : World) (own : Owns) (w : World) (wb : Nat) (Ps : List PD) (m : Nat) (k : Int) (h : LawOk W0 own w wb Ps m k) (hm : m ≤ 400000000) (at' : Int) (hlo : -9223372036854775808 ≤ at') (hhi : at' ≤ 9223372036854775807) (la : Option Addr) (ln lc : Nat) (pa : Option Addr) (pn pc : Nat) (h0 : 0 < Ps.length) :
    Calls Tryz.prog 7 #[.pointer (some ⟨wb, 0, none⟩), .agg #[.int .i64 2, .int .i64 at', .slice la ln lc, .slice pa pn pc]] w fun e w' => e = .returned (.bool true) ∧ ∃ own' Ps', 0 < Ps'.length ∧ LawOk W0 own' w' wb Ps' (m + 1) (k + 1048576) := by
  obtain ⟨vp, t1, t2, t3, t4⟩ := h.top
  obtain ⟨gp, cp, rfl⟩ := ownsRow_form' t3 h0
  have hwb : wb < w.heap.size := (h.low wb (by rw [h.wo]; rfl)).2
  have hgp : gp < w.heap.size := (t3.lt gp rfl).2
  have hfewP := h.few
  have hpk := pickP_lt at' h0
  have tp : w.cell? ⟨gp, pickP at' Ps.length, none⟩ = some (.pointer (some ⟨(Ps[pickP at' Ps.length]'hpk).pb, 0, none⟩)) := by
    rw [t3.cellAt _ (by omega), List.getElem?_map, List.getElem?_eq_getElem hpk]
    rfl
  have h0i : ((Ps.length : Int) == 0) = false := by rw [beq_eq_false_iff_ne]; omega
  have HPk : Hid (∀ w1, Calls Tryz.prog 16 #[.int .i64 at', .int .i64 Ps.length] w1 fun e w' => e = .returned (.int .i64 (pickP at' Ps.length : Nat)) ∧ w' = w1) := hide fun w1 => pick_any at' Ps.length w1 h0 (by omega) hlo hhi
  have HC : Hid (∀ w1, Below w.heap.size w w1 → Calls Tryz.prog 17 #[.pointer (some ⟨wb, 0, none⟩), .pointer (some ⟨(Ps[pickP at' Ps.length]'hpk).pb, 0, none⟩), .int .i64 2] w1 fun e w' => e = .returned (.bool true) ∧ ∃ own' Ps', 0 < Ps'.length ∧ LawOk W0 own' w' wb Ps' (m + 1) (k + 1048576)) := hide fun w1 hb1 => by
    have h1 := h.below (Nat.le_refl m) (Int.le_refl k) hb1
    refine (asked_tree W0 own w1 wb Ps m k h1 hm _ hpk).mono ?_
    rintro e w' ⟨rfl, own', hlaw⟩
    exact ⟨rfl, own', Ps, h0, hlaw.below (Nat.le_refl _) (by omega) (Below.refl _ _)⟩
  clear h t2 t3 t4 hlo hhi
  generalize (Ps[pickP at' Ps.length]'hpk).pb = PB at *
  generalize pickP at' Ps.length = pk at *
  generalize Ps.length = n at *
  have hpi : (pk : Int) < (n : Int) := by omega
  go_enter Tryz.func7, Tryz.ntmps7
  go_wp2_with fail
  generalize hw1 : w.alloc (.cells #[.int .i64 2, .int .i64 at', .slice la ln lc, .slice pa pn pc] 27) = w1
  have hb1 : Below w.heap.size w w1 := by rw [← hw1]; exact (Below.refl _ _).alloc (Nat.le_refl _) _
  have s1 : w.heap.size < w1.heap.size := by rw [← hw1]; simp
  have o0 : w1.cell? ⟨w.heap.size, 0, none⟩ = some (.int .i64 2) := by rw [← hw1]; simp [go_sem]
  have o1 : w1.cell? ⟨w.heap.size, 1, none⟩ = some (.int .i64 at') := by rw [← hw1]; simp [go_sem]
  have o3 : w1.cell? ⟨w.heap.size, 3, none⟩ = some (.slice pa pn pc) := by rw [← hw1]; simp [go_sem]
  have u1 := (hb1.cell (p := ⟨wb, 0, none⟩) hwb).trans t1
  have up := (hb1.cell (p := ⟨gp, pk, none⟩) hgp).trans tp
  have HB1 := hide hb1
  clear hw1 hb1 t1 tp
  go_region_held3 (fun w' => w'.cell? ⟨wb, 0, none⟩ = some (.slice (some ⟨gp, 0, none⟩) n cp) ∧ w'.cell? ⟨w.heap.size, 1, none⟩ = some (.int .i64 at') ∧ w'.cell? ⟨gp, pk, none⟩ = some (.pointer (some ⟨PB, 0, none⟩)))
    (first | go_keep)
    (first | (go_at_call 16; refine (unhide HPk _).mono ?_; rintro e w' ⟨rfl, hw'⟩; rw [hw']; clear hw'))
  go_wp2_with (first | (go_at_call 17; refine (unhide HC _ HB1.out.drew).mono ?_; rintro e w9 ⟨rfl, own', Ps', hl0, hlaw⟩))
  go_ret
  exact ⟨rfl, own', Ps', hl0, hlaw⟩
set_option maxHeartbeats 4000000 in
set_option maxRecDepth 100000 in
theorem step_ids (W0 : World) (own : Owns) (w : World) (wb : Nat) (Ps : List PD) (m : Nat) (k : Int) (h : LawOk W0 own w wb Ps m k) (hm : m ≤ 400000000) (at' : Int) (hlo : -9223372036854775808 ≤ at') (hhi : at' ≤ 9223372036854775807) (la : Option Addr) (ln lc : Nat) (pa : Option Addr) (pn pc : Nat) (h0 : 0 < Ps.length) :
    Calls Tryz.prog 7 #[.pointer (some ⟨wb, 0, none⟩), .agg #[.int .i64 3, .int .i64 at', .slice la ln lc, .slice pa pn pc]] w fun e w' => e = .returned (.bool true) ∧ ∃ own' Ps', 0 < Ps'.length ∧ LawOk W0 own' w' wb Ps' (m + 1) (k + 1048576) := by
  obtain ⟨vp, t1, t2, t3, t4⟩ := h.top
  obtain ⟨gp, cp, rfl⟩ := ownsRow_form' t3 h0
  have hwb : wb < w.heap.size := (h.low wb (by rw [h.wo]; rfl)).2
  have hgp : gp < w.heap.size := (t3.lt gp rfl).2
  have hfewP := h.few
  have hpk := pickP_lt at' h0
  have tp : w.cell? ⟨gp, pickP at' Ps.length, none⟩ = some (.pointer (some ⟨(Ps[pickP at' Ps.length]'hpk).pb, 0, none⟩)) := by
    rw [t3.cellAt _ (by omega), List.getElem?_map, List.getElem?_eq_getElem hpk]
    rfl
  have h0i : ((Ps.length : Int) == 0) = false := by rw [beq_eq_false_iff_ne]; omega
  have HPk : Hid (∀ w1, Calls Tryz.prog 16 #[.int .i64 at', .int .i64 Ps.length] w1 fun e w' => e = .returned (.int .i64 (pickP at' Ps.length : Nat)) ∧ w' = w1) := hide fun w1 => pick_any at' Ps.length w1 h0 (by omega) hlo hhi
  have HC : Hid (∀ w1, Below w.heap.size w w1 → Calls Tryz.prog 17 #[.pointer (some ⟨wb, 0, none⟩), .pointer (some ⟨(Ps[pickP at' Ps.length]'hpk).pb, 0, none⟩), .int .i64 3] w1 fun e w' => e = .returned (.bool true) ∧ ∃ own' Ps', 0 < Ps'.length ∧ LawOk W0 own' w' wb Ps' (m + 1) (k + 1048576)) := hide fun w1 hb1 => by
    have h1 := h.below (Nat.le_refl m) (Int.le_refl k) hb1
    refine (asked_ids W0 own w1 wb Ps m k h1 hm _ hpk).mono ?_
    rintro e w' ⟨rfl, own', hlaw⟩
    exact ⟨rfl, own', Ps, h0, hlaw.below (Nat.le_refl _) (by omega) (Below.refl _ _)⟩
  clear h t2 t3 t4 hlo hhi
  generalize (Ps[pickP at' Ps.length]'hpk).pb = PB at *
  generalize pickP at' Ps.length = pk at *
  generalize Ps.length = n at *
  have hpi : (pk : Int) < (n : Int) := by omega
  go_enter Tryz.func7, Tryz.ntmps7
  go_wp2_with fail
  generalize hw1 : w.alloc (.cells #[.int .i64 3, .int .i64 at', .slice la ln lc, .slice pa pn pc] 27) = w1
  have hb1 : Below w.heap.size w w1 := by rw [← hw1]; exact (Below.refl _ _).alloc (Nat.le_refl _) _
  have s1 : w.heap.size < w1.heap.size := by rw [← hw1]; simp
  have o0 : w1.cell? ⟨w.heap.size, 0, none⟩ = some (.int .i64 3) := by rw [← hw1]; simp [go_sem]
  have o1 : w1.cell? ⟨w.heap.size, 1, none⟩ = some (.int .i64 at') := by rw [← hw1]; simp [go_sem]
  have o3 : w1.cell? ⟨w.heap.size, 3, none⟩ = some (.slice pa pn pc) := by rw [← hw1]; simp [go_sem]
  have u1 := (hb1.cell (p := ⟨wb, 0, none⟩) hwb).trans t1
  have up := (hb1.cell (p := ⟨gp, pk, none⟩) hgp).trans tp
  have HB1 := hide hb1
  clear hw1 hb1 t1 tp
  go_region_held3 (fun w' => w'.cell? ⟨wb, 0, none⟩ = some (.slice (some ⟨gp, 0, none⟩) n cp) ∧ w'.cell? ⟨w.heap.size, 1, none⟩ = some (.int .i64 at') ∧ w'.cell? ⟨gp, pk, none⟩ = some (.pointer (some ⟨PB, 0, none⟩)))
    (first | go_keep)
    (first | (go_at_call 16; refine (unhide HPk _).mono ?_; rintro e w' ⟨rfl, hw'⟩; rw [hw']; clear hw'))
  go_wp2_with (first | (go_at_call 17; refine (unhide HC _ HB1.out.drew).mono ?_; rintro e w9 ⟨rfl, own', Ps', hl0, hlaw⟩))
  go_ret
  exact ⟨rfl, own', Ps', hl0, hlaw⟩
set_option maxHeartbeats 4000000 in
set_option maxRecDepth 100000 in
theorem step_loose (W0 : World) (own : Owns) (w : World) (wb : Nat) (Ps : List PD) (m : Nat) (k : Int) (h : LawOk W0 own w wb Ps m k) (hm : m ≤ 400000000) (at' : Int) (hlo : -9223372036854775808 ≤ at') (hhi : at' ≤ 9223372036854775807) (la : Option Addr) (ln lc : Nat) (pa : Option Addr) (pn pc : Nat) (h0 : 0 < Ps.length) :
    Calls Tryz.prog 7 #[.pointer (some ⟨wb, 0, none⟩), .agg #[.int .i64 4, .int .i64 at', .slice la ln lc, .slice pa pn pc]] w fun e w' => e = .returned (.bool true) ∧ ∃ own' Ps', 0 < Ps'.length ∧ LawOk W0 own' w' wb Ps' (m + 1) (k + 1048576) := by
  obtain ⟨vp, t1, t2, t3, t4⟩ := h.top
  obtain ⟨gp, cp, rfl⟩ := ownsRow_form' t3 h0
  have hwb : wb < w.heap.size := (h.low wb (by rw [h.wo]; rfl)).2
  have hgp : gp < w.heap.size := (t3.lt gp rfl).2
  have hfewP := h.few
  have hpk := pickP_lt at' h0
  have tp : w.cell? ⟨gp, pickP at' Ps.length, none⟩ = some (.pointer (some ⟨(Ps[pickP at' Ps.length]'hpk).pb, 0, none⟩)) := by
    rw [t3.cellAt _ (by omega), List.getElem?_map, List.getElem?_eq_getElem hpk]
    rfl
  have h0i : ((Ps.length : Int) == 0) = false := by rw [beq_eq_false_iff_ne]; omega
  have HPk : Hid (∀ w1, Calls Tryz.prog 16 #[.int .i64 at', .int .i64 Ps.length] w1 fun e w' => e = .returned (.int .i64 (pickP at' Ps.length : Nat)) ∧ w' = w1) := hide fun w1 => pick_any at' Ps.length w1 h0 (by omega) hlo hhi
  have HC : Hid (∀ w1, Below w.heap.size w w1 → Calls Tryz.prog 17 #[.pointer (some ⟨wb, 0, none⟩), .pointer (some ⟨(Ps[pickP at' Ps.length]'hpk).pb, 0, none⟩), .int .i64 4] w1 fun e w' => e = .returned (.bool true) ∧ ∃ own' Ps', 0 < Ps'.length ∧ LawOk W0 own' w' wb Ps' (m + 1) (k + 1048576)) := hide fun w1 hb1 => by
    have h1 := h.below (Nat.le_refl m) (Int.le_refl k) hb1
    refine (asked_loose W0 own w1 wb Ps m k h1 _ hpk).mono ?_
    rintro e w' ⟨rfl, own', hlaw⟩
    exact ⟨rfl, own', Ps, h0, hlaw.below (Nat.le_refl _) (by omega) (Below.refl _ _)⟩
  clear h t2 t3 t4 hlo hhi
  generalize (Ps[pickP at' Ps.length]'hpk).pb = PB at *
  generalize pickP at' Ps.length = pk at *
  generalize Ps.length = n at *
  have hpi : (pk : Int) < (n : Int) := by omega
  go_enter Tryz.func7, Tryz.ntmps7
  go_wp2_with fail
  generalize hw1 : w.alloc (.cells #[.int .i64 4, .int .i64 at', .slice la ln lc, .slice pa pn pc] 27) = w1
  have hb1 : Below w.heap.size w w1 := by rw [← hw1]; exact (Below.refl _ _).alloc (Nat.le_refl _) _
  have s1 : w.heap.size < w1.heap.size := by rw [← hw1]; simp
  have o0 : w1.cell? ⟨w.heap.size, 0, none⟩ = some (.int .i64 4) := by rw [← hw1]; simp [go_sem]
  have o1 : w1.cell? ⟨w.heap.size, 1, none⟩ = some (.int .i64 at') := by rw [← hw1]; simp [go_sem]
  have o3 : w1.cell? ⟨w.heap.size, 3, none⟩ = some (.slice pa pn pc) := by rw [← hw1]; simp [go_sem]
  have u1 := (hb1.cell (p := ⟨wb, 0, none⟩) hwb).trans t1
  have up := (hb1.cell (p := ⟨gp, pk, none⟩) hgp).trans tp
  have HB1 := hide hb1
  clear hw1 hb1 t1 tp
  go_region_held3 (fun w' => w'.cell? ⟨wb, 0, none⟩ = some (.slice (some ⟨gp, 0, none⟩) n cp) ∧ w'.cell? ⟨w.heap.size, 1, none⟩ = some (.int .i64 at') ∧ w'.cell? ⟨gp, pk, none⟩ = some (.pointer (some ⟨PB, 0, none⟩)))
    (first | go_keep)
    (first | (go_at_call 16; refine (unhide HPk _).mono ?_; rintro e w' ⟨rfl, hw'⟩; rw [hw']; clear hw'))
  go_wp2_with (first | (go_at_call 17; refine (unhide HC _ HB1.out.drew).mono ?_; rintro e w9 ⟨rfl, own', Ps', hl0, hlaw⟩))
  go_ret
  exact ⟨rfl, own', Ps', hl0, hlaw⟩
set_option maxHeartbeats 4000000 in
set_option maxRecDepth 100000 in
theorem step_apply (W0 : World) (own : Owns) (w : World) (wb : Nat) (Ps : List PD) (m : Nat) (k : Int) (h : LawOk W0 own w wb Ps m k) (hm : m ≤ 400000000) (hk : k ≤ 2305843009213693952) (at' : Int) (hlo : -9223372036854775808 ≤ at') (hhi : at' ≤ 9223372036854775807) (la : Option Addr) (ln lc : Nat) (pa : Option Addr) (pn pc : Nat) (X : Nat → Pat) (hpat : PListAt W0 pa pn X) (hlen : pn * 88 ≤ 140737488351232) (hfew : pn ≤ 1048576) (hpx : ∀ i, i < pn → (X i).Ok ∧ (X i).Ints) (h0 : 0 < Ps.length) :
    Calls Tryz.prog 7 #[.pointer (some ⟨wb, 0, none⟩), .agg #[.int .i64 5, .int .i64 at', .slice la ln lc, .slice pa pn pc]] w fun e w' => e = .returned (.bool true) ∧ ∃ own' Ps', 0 < Ps'.length ∧ LawOk W0 own' w' wb Ps' (m + 1) (k + 1048576) := by
  obtain ⟨vp, t1, t2, t3, t4⟩ := h.top
  obtain ⟨gp, cp, rfl⟩ := ownsRow_form' t3 h0
  have hwb : wb < w.heap.size := (h.low wb (by rw [h.wo]; rfl)).2
  have hgp : gp < w.heap.size := (t3.lt gp rfl).2
  have hfewP := h.few
  have hpk := pickP_lt at' h0
  have tp : w.cell? ⟨gp, pickP at' Ps.length, none⟩ = some (.pointer (some ⟨(Ps[pickP at' Ps.length]'hpk).pb, 0, none⟩)) := by
    rw [t3.cellAt _ (by omega), List.getElem?_map, List.getElem?_eq_getElem hpk]
    rfl
  have h0i : ((Ps.length : Int) == 0) = false := by rw [beq_eq_false_iff_ne]; omega
  have HPk : Hid (∀ w1, Calls Tryz.prog 16 #[.int .i64 at', .int .i64 Ps.length] w1 fun e w' => e = .returned (.int .i64 (pickP at' Ps.length : Nat)) ∧ w' = w1) := hide fun w1 => pick_any at' Ps.length w1 h0 (by omega) hlo hhi
  have HC : Hid (∀ w1, Below w.heap.size w w1 → Calls Tryz.prog 18 #[.pointer (some ⟨(Ps[pickP at' Ps.length]'hpk).pb, 0, none⟩), .slice pa pn pc] w1 fun e w' => e = .returned (.bool true) ∧ ∃ own' Ps', 0 < Ps'.length ∧ LawOk W0 own' w' wb Ps' (m + 1) (k + 1048576)) := hide fun w1 hb1 => by
    have h1 := h.below (Nat.le_refl m) (Int.le_refl k) hb1
    have hp1 : PListAt w1 pa pn X := hpat.below (h.base.trans (hb1.mono h.base.size))
    refine (applied_any W0 own w1 wb Ps m k h1 _ hpk pa pn pc X hp1 (fun h00 a e => ?_) hlen (by omega) (by omega) hpx).mono ?_
    · obtain ⟨b, o, e2, hp⟩ := hpat h00
      rw [e] at e2
      have e3 : a.block = b := by cases e2; rfl
      cases ho : own a.block with
      | none => rfl
      | some z => have := (h.low a.block (by rw [ho]; rfl)).1; have := hp.lt; omega
    · rintro e w' ⟨rfl, own', D', hlaw⟩
      exact ⟨rfl, own', _, by rw [List.length_set]; exact h0, hlaw.below (Nat.le_refl _) (by omega) (Below.refl _ _)⟩
  clear h t2 t3 t4 hpat hpx hlo hhi
  generalize (Ps[pickP at' Ps.length]'hpk).pb = PB at *
  generalize pickP at' Ps.length = pk at *
  generalize Ps.length = n at *
  have hpi : (pk : Int) < (n : Int) := by omega
  go_enter Tryz.func7, Tryz.ntmps7
  go_wp2_with fail
  generalize hw1 : w.alloc (.cells #[.int .i64 5, .int .i64 at', .slice la ln lc, .slice pa pn pc] 27) = w1
  have hb1 : Below w.heap.size w w1 := by rw [← hw1]; exact (Below.refl _ _).alloc (Nat.le_refl _) _
  have s1 : w.heap.size < w1.heap.size := by rw [← hw1]; simp
  have o0 : w1.cell? ⟨w.heap.size, 0, none⟩ = some (.int .i64 5) := by rw [← hw1]; simp [go_sem]
  have o1 : w1.cell? ⟨w.heap.size, 1, none⟩ = some (.int .i64 at') := by rw [← hw1]; simp [go_sem]
  have o3 : w1.cell? ⟨w.heap.size, 3, none⟩ = some (.slice pa pn pc) := by rw [← hw1]; simp [go_sem]
  have u1 := (hb1.cell (p := ⟨wb, 0, none⟩) hwb).trans t1
  have up := (hb1.cell (p := ⟨gp, pk, none⟩) hgp).trans tp
  have HB1 := hide hb1
  clear hw1 hb1 t1 tp
  go_region_held3 (fun w' => w'.cell? ⟨wb, 0, none⟩ = some (.slice (some ⟨gp, 0, none⟩) n cp) ∧ w'.cell? ⟨w.heap.size, 1, none⟩ = some (.int .i64 at') ∧ w'.cell? ⟨gp, pk, none⟩ = some (.pointer (some ⟨PB, 0, none⟩)))
    (first | go_keep)
    (first | (go_at_call 16; refine (unhide HPk _).mono ?_; rintro e w' ⟨rfl, hw'⟩; rw [hw']; clear hw'))
  go_wp2_with (first | (go_at_call 18; refine (unhide HC _ HB1.out.drew).mono ?_; rintro e w9 ⟨rfl, own', Ps', hl0, hlaw⟩))
  go_ret
  exact ⟨rfl, own', Ps', hl0, hlaw⟩
set_option maxHeartbeats 4000000 in
set_option maxRecDepth 100000 in
theorem step_other (W0 : World) (own : Owns) (w : World) (wb : Nat) (Ps : List PD) (m : Nat) (k : Int) (h : LawOk W0 own w wb Ps m k) (hm : m ≤ 400000000) (kd : Int) (h1 : (kd == 1) = false) (h2 : (kd == 2) = false) (h3 : (kd == 3) = false) (h4 : (kd == 4) = false) (h5 : (kd == 5) = false) (h6 : (kd == 6) = false) (h7 : (kd == 7) = false) (at' : Int) (hlo : -9223372036854775808 ≤ at') (hhi : at' ≤ 9223372036854775807) (la : Option Addr) (ln lc : Nat) (pa : Option Addr) (pn pc : Nat) (h0 : 0 < Ps.length) :
    Calls Tryz.prog 7 #[.pointer (some ⟨wb, 0, none⟩), .agg #[.int .i64 kd, .int .i64 at', .slice la ln lc, .slice pa pn pc]] w fun e w' => e = .returned (.bool true) ∧ ∃ own' Ps', 0 < Ps'.length ∧ LawOk W0 own' w' wb Ps' (m + 1) (k + 1048576) := by
  obtain ⟨vp, t1, t2, t3, t4⟩ := h.top
  obtain ⟨gp, cp, rfl⟩ := ownsRow_form' t3 h0
  have hwb : wb < w.heap.size := (h.low wb (by rw [h.wo]; rfl)).2
  have hgp : gp < w.heap.size := (t3.lt gp rfl).2
  have hfewP := h.few
  have hpk := pickP_lt at' h0
  have tp : w.cell? ⟨gp, pickP at' Ps.length, none⟩ = some (.pointer (some ⟨(Ps[pickP at' Ps.length]'hpk).pb, 0, none⟩)) := by
    rw [t3.cellAt _ (by omega), List.getElem?_map, List.getElem?_eq_getElem hpk]
    rfl
  have h0i : ((Ps.length : Int) == 0) = false := by rw [beq_eq_false_iff_ne]; omega
  have HPk : Hid (∀ w1, Calls Tryz.prog 16 #[.int .i64 at', .int .i64 Ps.length] w1 fun e w' => e = .returned (.int .i64 (pickP at' Ps.length : Nat)) ∧ w' = w1) := hide fun w1 => pick_any at' Ps.length w1 h0 (by omega) hlo hhi
  have HE : Hid (∀ w1, Below w.heap.size w w1 → ∃ own' Ps', 0 < Ps'.length ∧ LawOk W0 own' w1 wb Ps' (m + 1) (k + 1048576)) := hide fun w1 hb1 => ⟨own, Ps, h0, h.below (by omega) (by omega) hb1⟩
  clear h t2 t3 t4 hlo hhi
  generalize (Ps[pickP at' Ps.length]'hpk).pb = PB at *
  generalize pickP at' Ps.length = pk at *
  generalize Ps.length = n at *
  have hpi : (pk : Int) < (n : Int) := by omega
  go_enter Tryz.func7, Tryz.ntmps7
  go_wp2_with fail
  generalize hw1 : w.alloc (.cells #[.int .i64 kd, .int .i64 at', .slice la ln lc, .slice pa pn pc] 27) = w1
  have hb1 : Below w.heap.size w w1 := by rw [← hw1]; exact (Below.refl _ _).alloc (Nat.le_refl _) _
  have s1 : w.heap.size < w1.heap.size := by rw [← hw1]; simp
  have o0 : w1.cell? ⟨w.heap.size, 0, none⟩ = some (.int .i64 kd) := by rw [← hw1]; simp [go_sem]
  have o1 : w1.cell? ⟨w.heap.size, 1, none⟩ = some (.int .i64 at') := by rw [← hw1]; simp [go_sem]
  have o3 : w1.cell? ⟨w.heap.size, 3, none⟩ = some (.slice pa pn pc) := by rw [← hw1]; simp [go_sem]
  have u1 := (hb1.cell (p := ⟨wb, 0, none⟩) hwb).trans t1
  have up := (hb1.cell (p := ⟨gp, pk, none⟩) hgp).trans tp
  have HB1 := hide hb1
  clear hw1 hb1 t1 tp
  go_region_held3 (fun w' => w'.cell? ⟨wb, 0, none⟩ = some (.slice (some ⟨gp, 0, none⟩) n cp) ∧ w'.cell? ⟨w.heap.size, 1, none⟩ = some (.int .i64 at') ∧ w'.cell? ⟨gp, pk, none⟩ = some (.pointer (some ⟨PB, 0, none⟩)))
    (first | go_keep)
    (first | (go_at_call 16; refine (unhide HPk _).mono ?_; rintro e w' ⟨rfl, hw'⟩; rw [hw']; clear hw'))
  go_wp2_with fail
  go_ret
  exact ⟨rfl, HE.out _ HB1.out.drew⟩
end Go.Proofs.YtobgcaemnpkbmaaGreat
namespace Go.Proofs.YtobgcaemnpkbmaaGreat
open Go.RowKit
theorem still_law (W0 : World) (own : Owns) (w : World) (wb : Nat) (Ps : List PD) (m : Nat) (k : Int) (h : LawOk W0 own w wb Ps m k) (hm : m ≤ 400000000) :
    Calls Tryz.prog 8 #[.pointer (some ⟨wb, 1, none⟩)] w fun e w' => e = .returned (.bool true) ∧ Below w.heap.size w w' := by
  obtain ⟨vN, EN, n1, _, n3, _, n5, _⟩ := h.book.nums
  obtain ⟨vA, EA, a1, _, a3, _, a5, _⟩ := h.book.atts
  obtain ⟨vO, EO, o1, _, o3, _, o5, _⟩ := h.book.nods
  obtain ⟨vP, EP, p1, _, p3, _, p5, _⟩ := h.book.pats
  obtain ⟨vV, EV, v1, _, v3, _, v5, _⟩ := h.book.evts
  obtain ⟨vC, EC, c1, _, c3, _, c5, _⟩ := h.book.coms
  exact still_any (fun b => own b = some (0, 2)) wb 1 w vN EN (by omega) n1 n3 vA EA (by omega) a1 a3 vO EO (by omega) o1 o3 vP EP (by omega) p1 p3 vV EV (by omega) v1 v3 vC EC (by omega) c1 c3
structure ScriptAt (w : World) (so : Option Addr) (n : Nat) (O : Nat → SOp) : Prop where
  at' : 0 < n → ∃ b o, so = some ⟨b, o, none⟩ ∧ b < w.heap.size ∧ ∀ j r, j < n → r < 4 → w.cell? ⟨b, o + j * 4 + r, none⟩ = (O j).cells[r]?
  ok : ∀ j, j < n → (O j).Ok w
theorem step_upto5 (W0 : World) (own : Owns) (w : World) (wb : Nat) (Ps : List PD) (m : Nat) (k : Int) (h : LawOk W0 own w wb Ps m k) (hm : m ≤ 400000000) (hk4 : 400 ≤ k) (hk : k ≤ 2305843009213693952) (h0 : 0 < Ps.length) (o : SOp) (ho : o.Ok W0) (h5 : o.kind ≤ 5) :
    Calls Tryz.prog 7 #[.pointer (some ⟨wb, 0, none⟩), o.val] w fun e w' => e = .returned (.bool true) ∧ ∃ own' Ps', 0 < Ps'.length ∧ LawOk W0 own' w' wb Ps' (m + 1) (k + 1048576) := by
  obtain ⟨kind, at', la, ln, lc, L, pa, pn, pc, X⟩ := o
  have h5 : kind ≤ 5 := h5
  show Calls Tryz.prog 7 #[.pointer (some ⟨wb, 0, none⟩), .agg #[.int .i64 kind, .int .i64 at', .slice la ln lc, .slice pa pn pc]] w _
  by_cases e1 : kind = 1
  · subst e1
    exact step_new W0 own w wb Ps m k h hm hk4 at' la ln lc L _ (ho.lst.below h.base) h0
  by_cases e2 : kind = 2
  · subst e2
    exact step_tree W0 own w wb Ps m k h hm at' ho.lo ho.hi la ln lc pa pn pc h0
  by_cases e3 : kind = 3
  · subst e3
    exact step_ids W0 own w wb Ps m k h hm at' ho.lo ho.hi la ln lc pa pn pc h0
  by_cases e4 : kind = 4
  · subst e4
    exact step_loose W0 own w wb Ps m k h hm at' ho.lo ho.hi la ln lc pa pn pc h0
  by_cases e5 : kind = 5
  · subst e5
    exact step_apply W0 own w wb Ps m k h hm hk at' ho.lo ho.hi la ln lc pa pn pc X ho.pat ho.len ho.few ho.px h0
  · exact step_other W0 own w wb Ps m k h hm kind (by simpa using e1) (by simpa using e2) (by simpa using e3) (by simpa using e4) (by simpa using e5) (by rw [beq_eq_false_iff_ne]; omega) (by rw [beq_eq_false_iff_ne]; omega) at' ho.lo ho.hi la ln lc pa pn pc h0
def smallD (i : Nat) : Nod := if i = 0 then ⟨0, ⟨#[100, 105, 118]⟩, 0, none, 0, 0, ⟨#[]⟩, fun _ => ⟨#[]⟩, fun _ => ⟨#[]⟩⟩ else ⟨1, ⟨#[112]⟩, i, none, 0, 0, ⟨#[]⟩, fun _ => ⟨#[]⟩, fun _ => ⟨#[]⟩⟩
theorem smallD_out : (checkOut (mayB smallD) 3).1 = 0 := by decide +kernel
def smallCells : Array Value := #[.int .i64 0, .string ⟨#[100, 105, 118]⟩, .int .i64 0, .slice none 0 0, .string ⟨#[]⟩, .int .i64 1, .string ⟨#[112]⟩, .int .i64 1, .slice none 0 0, .string ⟨#[]⟩, .int .i64 1, .string ⟨#[112]⟩, .int .i64 2, .slice none 0 0, .string ⟨#[]⟩]
theorem small_in (w : World) (t : TypeId) : ListIn (w.alloc (.cells smallCells t)) (some ⟨w.heap.size, 0, none⟩) 3 smallD where
  at' := by
    intro _
    refine ⟨w.heap.size, 0, rfl, by simp, fun i hi => ?_⟩
    have small : ∀ n : Nat, n ≤ 8 → n ≤ maxLen := fun n h => by unfold maxLen; omega
    match i, hi with
    | 0, _ => exact ⟨by simp [go_sem, smallD, smallCells], by simp [go_sem, smallD, smallCells], by simp [go_sem, smallD, smallCells], by simp [go_sem, smallD, smallCells], by simp [go_sem, smallD, smallCells], ⟨by simp [smallD], small _ (by decide), small _ (by decide), fun j hj => absurd hj (by simp [smallD])⟩⟩
    | 1, _ => exact ⟨by simp [go_sem, smallD, smallCells], by simp [go_sem, smallD, smallCells], by simp [go_sem, smallD, smallCells], by simp [go_sem, smallD, smallCells], by simp [go_sem, smallD, smallCells], ⟨by simp [smallD], small _ (by decide), small _ (by decide), fun j hj => absurd hj (by simp [smallD])⟩⟩
    | 2, _ => exact ⟨by simp [go_sem, smallD, smallCells], by simp [go_sem, smallD, smallCells], by simp [go_sem, smallD, smallCells], by simp [go_sem, smallD, smallCells], by simp [go_sem, smallD, smallCells], ⟨by simp [smallD], small _ (by decide), small _ (by decide), fun j hj => absurd hj (by simp [smallD])⟩⟩
  inn := ⟨fun i _ _ => by unfold smallD; split <;> rfl, fun i _ => by unfold smallD; split <;> (show 0 * 32 ≤ _; omega)⟩
  cap := fun i _ _ => by unfold smallD; split <;> rfl
  len := by omega
def worldCells : Array Value := #[.slice none 0 0, .slice none 0 0, .slice none 0 0, .slice none 0 0, .slice none 0 0, .slice none 0 0, .slice none 0 0]
theorem law_start (w : World) (o : Obj) : LawOk w (fun b => if b = w.heap.size then some (0, 0) else none) ((w.alloc (.cells worldCells 45)).alloc o) w.heap.size [] 0 400 := by
  have hbk : ((w.alloc (.cells worldCells 45)).alloc o).heap[w.heap.size]? = some (.cells worldCells 45 (0, 0)) := by
    rw [Below.heap_alloc _ _ _ (by simp)]
    show (w.heap.push _)[w.heap.size]? = _
    simp
  have hkind : ∀ kd e pat size, kd < 6 → KindAt (fun b => if b = w.heap.size then some (0, 0) else none) ((w.alloc (.cells worldCells 45)).alloc o) w.heap.size kd (20 * 0) e pat size := fun kd e pat size hk => by
    refine ⟨.slice none 0 0, [], cell_of_blk hbk (kd + 1) _ ?_, frozen_of_blk hbk _, ⟨World.ownsRow_nil _ _ _ _, fun i hi => absurd hi (Nat.not_lt_zero _)⟩, rfl, Nat.le_refl _, fun b e => by cases e⟩
    match kd, hk with
    | 0, _ => rfl
    | 1, _ => rfl
    | 2, _ => rfl
    | 3, _ => rfl
    | 4, _ => rfl
    | 5, _ => rfl
  refine ⟨if_pos rfl, ⟨.slice none 0 0, cell_of_blk hbk 0 _ rfl, frozen_of_blk hbk _, World.ownsRow_nil _ _ _ _, fun b e => by cases e⟩, fun i hi => absurd hi (Nat.not_lt_zero _), ⟨hkind 0 _ _ _ (by omega), hkind 1 _ _ _ (by omega), hkind 2 _ _ _ (by omega), hkind 3 _ _ _ (by omega), hkind 4 _ _ _ (by omega), hkind 5 _ _ _ (by omega)⟩, fun b e => ?_, ((Below.refl _ _).alloc (Nat.le_refl _) _).alloc (by simp) _, Nat.le_refl _, fun D hD => by simp at hD⟩
  by_cases hb : b = w.heap.size
  · subst hb; simp; omega
  · replace e : (if b = w.heap.size then some ((0 : Nat), (0 : Nat)) else none).isSome = true := e
    rw [if_neg hb] at e
    cases e
set_option maxHeartbeats 4000000 in
set_option maxRecDepth 100000 in
theorem plays5_any (so : Option Addr) (n c : Nat) (O : Nat → SOp) (w : World) (h : ScriptAt w so n O) (hn : n ≤ 1048576) :
    Calls Tryz.prog 5 #[.slice so n c, .int .i64 5] w fun e w' => e = .returned (.bool true) ∧ Below w.heap.size w w' := by
  have HS := hide h
  clear h
  go_enter Tryz.func5, Tryz.ntmps5
  have HM : Hid (Calls Tryz.prog 6 #[.pointer (some ⟨w.heap.size, 0, none⟩), .slice (some ⟨w.heap.size + 1, 0, none⟩) 3 3] ((w.alloc (.cells #[.slice none 0 0, .slice none 0 0, .slice none 0 0, .slice none 0 0, .slice none 0 0, .slice none 0 0, .slice none 0 0] 45)).alloc (.cells #[.int .i64 0, .string ⟨#[100, 105, 118]⟩, .int .i64 0, .slice none 0 0, .string ⟨#[]⟩, .int .i64 1, .string ⟨#[112]⟩, .int .i64 1, .slice none 0 0, .string ⟨#[]⟩, .int .i64 1, .string ⟨#[112]⟩, .int .i64 2, .slice none 0 0, .string ⟨#[]⟩] 33)) fun e w' => e = .returned (.bool true) ∧ ∃ own D, LawOk w own w' w.heap.size [D] 1 400) := by
    have h1 := small_in (w.alloc (.cells worldCells 45)) 33
    rw [World.size_alloc] at h1
    exact hide (made_good w _ _ w.heap.size [] 0 400 (law_start w _) (by omega) (by omega) _ 3 3 smallD h1 smallD_out)
  have HSt : Hid (∀ own wr Ps j, j < n → 0 < Ps.length → LawOk w own wr w.heap.size Ps (j + 1) (400 + j * 1048576) → (O j).kind ≤ 5 → Calls Tryz.prog 7 #[.pointer (some ⟨w.heap.size, 0, none⟩), (O j).val] wr fun e w' => e = .returned (.bool true) ∧ ∃ own' Ps', 0 < Ps'.length ∧ LawOk w own' w' w.heap.size Ps' (j + 2) (400 + (j + 1 : Nat) * 1048576)) := hide fun own wr Ps j hj h0 hl h5 => by
    refine (step_upto5 w own wr w.heap.size Ps (j + 1) _ hl (by omega) (by omega) (by omega) h0 (O j) (HS.out.ok j hj) h5).mono ?_
    rintro e w' ⟨rfl, own', Ps', h0', hl'⟩
    refine ⟨rfl, own', Ps', h0', hl'.below (by omega) (by omega) (Below.refl _ _)⟩
  have HTi : Hid (∀ own wr Ps j k, j ≤ n + 2 → LawOk w own wr w.heap.size Ps j k → Calls Tryz.prog 8 #[.pointer (some ⟨w.heap.size, 1, none⟩)] wr fun e w' => e = .returned (.bool true) ∧ LawOk w own w' w.heap.size Ps j k) := hide fun own wr Ps j k hj hl => by
    refine (still_law w own wr w.heap.size Ps j k hl (by omega)).mono ?_
    rintro e w' ⟨rfl, hb⟩
    exact ⟨rfl, hl.below (Nat.le_refl _) (Int.le_refl _) hb⟩
  have HCl : Hid (∀ own wr Ps m k j, LawOk w own wr w.heap.size Ps m k → j < n → ∃ b o, so = some ⟨b, o, none⟩ ∧ ∀ r, r < 4 → wr.cell? ⟨b, o + j * 4 + r, none⟩ = (O j).cells[r]?) := hide fun own wr Ps m k j hl hj => by
    obtain ⟨b, o, e, hb, hc⟩ := HS.out.at' (by omega)
    exact ⟨b, o, e, fun r hr => (hl.base.cell (p := ⟨b, _, none⟩) hb).trans (hc j r hj hr)⟩
  go_wp2_with fail
  refine (unhide HM).mono ?_
  rintro e w1 ⟨rfl, own1, D1, hl1⟩
  obtain ⟨vp, t1, t2, t3, t4⟩ := hl1.top
  obtain ⟨ap, cp, rfl⟩ := own_shape t3
  have hl1' : LawOk w own1 w1 w.heap.size [D1] (0 + 1) (400 + (0 : Nat) * 1048576) := hl1
  have HL1 := hide hl1'
  clear hl1 hl1' t2 t3 t4 HM
  have t1 : w1.cell? ⟨w.heap.size, 0, none⟩ = some (.slice ap 1 cp) := t1
  go_wp2_with fail
  go_loopw [6, 7, 8] (fun ok i _ wr => ∃ j : Nat, j ≤ n ∧ i = .int .i64 j ∧ ok = .bool true ∧ Hid (∃ own Ps, 0 < Ps.length ∧ LawOk w own wr w.heap.size Ps (j + 1) (400 + j * 1048576))) (fun _ i _ _ => n - (intOf i).toNat)
  case atStart => exact ⟨0, Nat.zero_le _, rfl, rfl, hide ⟨own1, [D1], by simp, HL1.out⟩⟩
  case round =>
    obtain ⟨j, hj, rfl, rfl, hr⟩ := hrel
    clear HL1 t1
    by_cases hlt : j < n
    · obtain ⟨own, Ps, h0, hl⟩ := hr.out
      obtain ⟨b, o, rfl, hc⟩ := HCl.out own wr Ps _ _ j hl hlt
      have hji : (j : Int) < (n : Int) := by omega
      have HL := hide hl
      have HP0 := hide h0
      clear hl h0 hr
      have hst := HSt.out own wr Ps j hlt HP0.out HL.out
      generalize hO : O j = x at hst hc
      obtain ⟨kd, at', la, ln, lc, L, pa, pn, pc, X⟩ := x
      have c0 : wr.cell? ⟨b, o + j * 4, none⟩ = some (.int .i64 kd) := hc 0 (by omega)
      have c1 : wr.cell? ⟨b, o + j * 4 + 1, none⟩ = some (.int .i64 at') := hc 1 (by omega)
      have c2 : wr.cell? ⟨b, o + j * 4 + 2, none⟩ = some (.slice la ln lc) := hc 2 (by omega)
      have c3 : wr.cell? ⟨b, o + j * 4 + 3, none⟩ = some (.slice pa pn pc) := hc 3 (by omega)
      clear hc hO
      by_cases h5 : kd ≤ 5
      · have HC := hide (hst h5)
        clear hst
        simp only [SOp.val, SOp.cells] at HC
        go_wp2_with fail
        refine (unhide HC).mono ?_
        rintro e w2 ⟨rfl, own2, Ps2, h02, hl2⟩
        have HB := hide (HTi.out own2 w2 Ps2 (j + 2) _ (by omega) hl2)
        have HP2 := hide h02
        clear hl2 h02 HC
        go_wp2_with fail
        refine (unhide HB).mono ?_
        rintro e w3 ⟨rfl, hl3⟩
        have HL3 := hide hl3
        clear hl3 HB
        go_wp2_with fail
        go_roundw
        case rel => exact ⟨j + 1, by omega, by go_num, rfl, hide ⟨own2, Ps2, HP2.out, HL3.out⟩⟩
        case measure => simp [intOf]; omega
      · clear hst
        have HB := hide (HTi.out own wr Ps (j + 1) _ (by omega) HL.out)
        go_wp2_with fail
        refine (unhide HB).mono ?_
        rintro e w3 ⟨rfl, hl3⟩
        have HL3 := hide hl3
        clear hl3 HB
        go_wp2_with fail
        go_roundw
        case rel => exact ⟨j + 1, by omega, by go_num, rfl, hide ⟨own, Ps, HP0.out, HL3.out.below (by omega) (by omega) (Below.refl _ _)⟩⟩
        case measure => simp [intOf]; omega
    · have hji : ¬ (j : Int) < (n : Int) := by omega
      obtain ⟨own, Ps, h0, hl⟩ := hr.out
      have HL := hide hl
      clear hl h0 hr
      go_wp2_with fail
      go_ret
      exact ⟨rfl, HL.out.base⟩
end Go.Proofs.YtobgcaemnpkbmaaGreat
namespace Go.Proofs.YtobgcaemnpkbmaaGreat
open Go.RowKit
theorem ScriptAt.below {w w' : World} {so : Option Addr} {n : Nat} {O : Nat → SOp} (h : ScriptAt w so n O) (hb : Below w.heap.size w w') : ScriptAt w' so n O where
  at' := fun h0 => by
    obtain ⟨b, o, e, hl, hc⟩ := h.at' h0
    exact ⟨b, o, e, Nat.lt_of_lt_of_le hl hb.size, fun j r hj hr => (hb.cell (p := ⟨b, _, none⟩) hl).trans (hc j r hj hr)⟩
  ok := fun j hj => (h.ok j hj).below hb
theorem list_none (w : World) (L : Nat → Nod) : ListIn w none 0 L := ⟨fun h => absurd h (Nat.lt_irrefl _), ⟨fun i hi => absurd hi (Nat.not_lt_zero _), fun i hi => absurd hi (Nat.not_lt_zero _)⟩, fun i hi => absurd hi (Nat.not_lt_zero _), by omega⟩
def askO (k : Int) : SOp := ⟨k, 0, none, 0, 0, fun _ => spareN, none, 0, 0, fun _ => spareP⟩
theorem askO_ok (w : World) (k : Int) : (askO k).Ok w := ⟨list_none w _, fun h => absurd h (Nat.lt_irrefl _), by show 0 * 88 ≤ _; omega, by show 0 ≤ _; omega, fun i hi => absurd hi (Nat.not_lt_zero _), by show _ ≤ (0 : Int); omega, by show (0 : Int) ≤ _; omega⟩
def exP : Pat := ⟨2, 3, 1, 2, 0, ⟨#[]⟩, ⟨#[]⟩, ⟨#[]⟩⟩
def exO (g : Nat) (j : Nat) : SOp := if j = 1 then ⟨5, 0, none, 0, 0, fun _ => spareN, some ⟨g, 0, none⟩, 1, 1, fun _ => exP⟩ else if j = 3 then askO 3 else askO 2
def exPc : Array Value := #[.int .i64 2, .int .i64 3, .int .i64 1, .int .i64 2, .int .i64 0, .string ⟨#[]⟩, .string ⟨#[]⟩, .string ⟨#[]⟩]
def exSc (g : Nat) : Array Value := #[.int .i64 2, .int .i64 0, .slice none 0 0, .slice none 0 0, .int .i64 5, .int .i64 0, .slice none 0 0, .slice (some ⟨g, 0, none⟩) 1 1, .int .i64 2, .int .i64 0, .slice none 0 0, .slice none 0 0, .int .i64 3, .int .i64 0, .slice none 0 0, .slice none 0 0]
theorem ex_script (w : World) : ScriptAt ((w.alloc (.cells exPc 29)).alloc (.cells (exSc w.heap.size) 27)) (some ⟨w.heap.size + 1, 0, none⟩) 4 (exO w.heap.size) where
  at' := fun _ => by
    have hbk : ((w.alloc (.cells exPc 29)).alloc (.cells (exSc w.heap.size) 27)).heap[w.heap.size + 1]? = some (.cells (exSc w.heap.size) 27 (0, 0)) := by
      show ((w.heap.push _).push _)[w.heap.size + 1]? = _
      rw [Array.getElem?_push, if_pos (by simp)]
    refine ⟨w.heap.size + 1, 0, rfl, lt_of_blk hbk, fun j r hj hr => ?_⟩
    simp only [World.cell?, hbk]
    match j, hj with
    | 0, _ => match r, hr with | 0, _ => rfl | 1, _ => rfl | 2, _ => rfl | 3, _ => rfl
    | 1, _ => match r, hr with | 0, _ => rfl | 1, _ => rfl | 2, _ => rfl | 3, _ => rfl
    | 2, _ => match r, hr with | 0, _ => rfl | 1, _ => rfl | 2, _ => rfl | 3, _ => rfl
    | 3, _ => match r, hr with | 0, _ => rfl | 1, _ => rfl | 2, _ => rfl | 3, _ => rfl
  ok := fun j hj => by
    unfold exO
    by_cases h1 : j = 1
    · rw [if_pos h1]
      have hbk : ((w.alloc (.cells exPc 29)).alloc (.cells (exSc w.heap.size) 27)).heap[w.heap.size]? = some (.cells exPc 29 (0, 0)) := by
        rw [Below.heap_alloc _ _ _ (by simp)]
        show (w.heap.push _)[w.heap.size]? = _
        simp
      refine ⟨list_none _ _, fun _ => ⟨w.heap.size, 0, rfl, lt_of_blk hbk, fun j hj => ?_⟩, by show 1 * 88 ≤ _; omega, by show 1 ≤ _; omega, fun i _ => ⟨⟨by show 0 ≤ maxLen; omega, by show 0 ≤ maxLen; omega, by show 0 ≤ maxLen; omega⟩, ⟨by show I64 3; unfold I64; omega, by show I64 1; unfold I64; omega, by show I64 2; unfold I64; omega⟩⟩, by show _ ≤ (0 : Int); omega, by show (0 : Int) ≤ _; omega⟩
      have hj : j < 8 := hj
      simp only [World.cell?, hbk]
      match j, hj with
      | 0, _ => rfl
      | 1, _ => rfl
      | 2, _ => rfl
      | 3, _ => rfl
      | 4, _ => rfl
      | 5, _ => rfl
      | 6, _ => rfl
      | 7, _ => rfl
    · rw [if_neg h1]
      split
      · exact askO_ok _ _
      · exact askO_ok _ _
set_option maxHeartbeats 1000000 in
set_option maxRecDepth 100000 in
theorem documents_any (so : Option Addr) (n c : Nat) (O : Nat → SOp) (w : World) (h : ScriptAt w so n O) (hn : n ≤ 1048576) :
    Calls Tryz.prog 3 #[.slice so n c] w fun e w' => e = .returned (.bool true) ∧ Below w.heap.size w w' := by
  have HS := hide h
  clear h
  have HF := hide (plays5_any (some ⟨w.heap.size + 1, 0, none⟩) 4 4 (exO w.heap.size) _ (ex_script w) (by omega))
  have HR : Hid (∀ w1, Below w.heap.size w w1 → Calls Tryz.prog 5 #[.slice so n c, .int .i64 5] w1 fun e w' => e = .returned (.bool true) ∧ Below w1.heap.size w1 w') := hide fun w1 hb => plays5_any so n c O w1 (HS.out.below hb) hn
  unfold exPc exSc at HF
  go_enter Tryz.func3, Tryz.ntmps3
  go_wp2_with fail
  refine (unhide HF).mono ?_
  rintro e w1 ⟨rfl, hb1⟩
  have hbw : Below w.heap.size w w1 := (((Below.refl w.heap.size w).alloc (Nat.le_refl _) _).alloc (by simp) _).trans (hb1.mono (by simp; omega))
  clear hb1 HF
  go_wp2_with fail
  refine (unhide HR w1 hbw).mono ?_
  rintro e w2 ⟨rfl, hb2⟩
  go_wp2_with fail
  go_ret
  exact ⟨rfl, hbw.trans (hb2.mono hbw.size)⟩
end Go.Proofs.YtobgcaemnpkbmaaGreat
