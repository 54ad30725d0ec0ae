/- Fp Plo Joi -/
import Derived.Test.YtobgcaemnpkbmaaMd25
import Derived.Test.YtobgcaemnpkbmaaMd22
import Derived.Test.YtobgcaemnpkbmaaMd03
namespace Go.Proofs.Ytobgcaemnpkbmaa
open Go.RowKit
set_option maxHeartbeats 2000000 in
set_option maxRecDepth 100000 in
theorem kid_old (WB N : Nat) (n kc k : Nat) (g D : Nat) (hk : k < n) (d ky : Int) (tg tx : ByteArray) (av : Value) (w : World) (n6 : w.cell? ⟨N, 6, none⟩ = some (.slice (some ⟨g, 0, none⟩) n kc)) (hg : w.cell? ⟨g, k, none⟩ = some (.pointer (some ⟨D, 0, none⟩))) :
    Calls Try.prog 83 #[.pointer (some ⟨WB, 0, none⟩), .pointer (some ⟨N, 0, none⟩), .int .i64 (k : Int), .agg #[.int .i64 d, .string tg, .int .i64 ky, av, .string tx]] w fun e w' => e = .returned (.pointer (some ⟨D, 0, none⟩)) ∧ Below w.heap.size w w' := by
  have hq : ((k : Int) == -1) = false := beq_eq_false_iff_ne.2 (by omega)
  have hC : ∀ w1 : World, Calls Try.prog 82 #[.int .i64 (k : Int)] w1 fun e w' => e = .returned (.bool false) ∧ w' = w1 := fun w1 => by
    have := isNone_any (k : Int) w1
    rw [hq] at this
    exact this
  have HC := hide hC
  clear hC hq
  have hN : N < w.heap.size := World.block_lt_of_cell? _ _ n6
  have hG : g < w.heap.size := World.block_lt_of_cell? _ _ hg
  go_enter Try.func83, Try.ntmps83
  go_wp2_with (first | (go_at_call 82; refine (unhide HC _).mono ?_; rintro e w1 ⟨rfl, rfl⟩))
  go_ret
  exact ⟨rfl, (Below.refl _ _).alloc (Nat.le_refl _) _⟩
set_option maxHeartbeats 2000000 in
set_option maxRecDepth 100000 in
theorem kid_new (B WB : Nat) (pv : Value) (P : List Pat) (last : Int) (w : World) (h : WayAt B w WB pv P last) (hB : B ≤ w.heap.size) (hP : P.length ≤ 900000) (hl0 : 0 ≤ last) (hl1 : last ≤ 4611686018427387904) (N : Nat) (d ky : Int) (tg tx : ByteArray) (av : Value) (hs1 : tg.size ≤ 1000000) (hs2 : tx.size ≤ 1000000) :
    Calls Try.prog 83 #[.pointer (some ⟨WB, 0, none⟩), .pointer (some ⟨N, 0, none⟩), .int .i64 (-1), .agg #[.int .i64 d, .string tg, .int .i64 ky, av, .string tx]] w fun e w' => ∃ D pv', e = .returned (.pointer (some ⟨D, 0, none⟩)) ∧ w.heap.size ≤ D ∧ Free WB pv' w' D ∧ w'.heap[D]? = some (.cells #[.int .i64 (last + 1), .int .i64 ky, .string tg, .string tx, .slice none 0 0, .pointer none, .slice none 0 0] 79 (0, 0)) ∧ WayAt B w' WB pv' (P ++ [⟨1, last + 1, 0, 0, ky, tg, ⟨#[]⟩, tx⟩]) (last + 1) ∧ Tells WB pv pv' w w' := by
  have H := hide h
  have hC : ∀ w1 : World, Calls Try.prog 82 #[.int .i64 (-1)] w1 fun e w' => e = .returned (.bool true) ∧ w' = w1 := fun w1 => isNone_any (-1) w1
  have HC := hide hC
  have c1 := h.c1
  have f1 := h.f1
  have lW := h.lt
  clear h hC
  go_enter Try.func83, Try.ntmps83
  go_wp2_with (first | (go_at_call 82; refine (unhide HC _).mono ?_; rintro e w1 ⟨rfl, rfl⟩))
  have hs1' : (w.setCell ⟨WB, 1, none⟩ (.int .i64 (last + 1))).heap.size = w.heap.size := size_setCell' _ _ _
  have hW1 : WayAt B (w.setCell ⟨WB, 1, none⟩ (.int .i64 (last + 1))) WB pv P (last + 1) :=
    ⟨(World.cell?_setCell_other _ _ _ _ (fun e => by cases e)).trans H.out.c0, (World.frozen?_setCell ..).trans H.out.f0, World.cell?_setCell_same _ _ _ c1, (World.frozen?_setCell ..).trans f1, own_set H.out.row (.inr fun e => H.out.apart _ e rfl), H.out.apart, by rw [hs1']; exact lW⟩
  have hT1 : Tells WB pv pv w (w.setCell ⟨WB, 1, none⟩ (.int .i64 (last + 1))) := ⟨⟨rfl, rfl, rfl, Nat.le_of_eq hs1'.symm, fun b _ hn => Below.heap_setCell _ _ _ _ (fun e => hn (.inl e))⟩, fun _ e => .inl e⟩
  generalize w.setCell ⟨WB, 1, none⟩ (.int .i64 (last + 1)) = w1 at hW1 hT1 hs1' ⊢
  generalize hx0 : w1.alloc (.cells #[.int .i64 d, .string tg, .int .i64 ky, av, .string tx] 28) = x0
  have hb0 : Below w1.heap.size w1 x0 := by rw [← hx0]; exact (Below.refl _ _).alloc (Nat.le_refl _) _
  have hc0 := cells_new' w1 #[.int .i64 d, .string tg, .int .i64 ky, av, .string tx] 28 w.heap.size hs1'.symm _ rfl
  rw [hx0] at hc0
  have k1 : x0.cell? ⟨w.heap.size, 1, none⟩ = some (.string tg) := by have := hc0 1 _ rfl; rw [addr_add'] at this; exact this
  have k2 : x0.cell? ⟨w.heap.size, 2, none⟩ = some (.int .i64 ky) := by have := hc0 2 _ rfl; rw [addr_add'] at this; exact this
  have k4 : x0.cell? ⟨w.heap.size, 4, none⟩ = some (.string tx) := by have := hc0 4 _ rfl; rw [addr_add'] at this; exact this
  have hW0 := hW1.below hb0
  have hT0 := hT1.trans (.of_below hb0)
  have s0 : w.heap.size < x0.heap.size := World.block_lt_of_cell? _ _ k1
  have fB : Free WB pv x0 w.heap.size := ⟨s0, Nat.ne_of_gt lW, fun e => Nat.lt_irrefl _ (H.out.row.lt _ e).2⟩
  have j1 := hW0.c1
  have HW0 := hide hW0
  have HT0 := hide hT0
  have HFB := hide fB
  clear hW1 hT1 hx0 hb0 hc0 hW0 hT0 fB hs1' c1 f1 H
  have hS0 : (fun w' : World => w'.cell? ⟨WB, 1, none⟩ = some (.int .i64 (last + 1)) ∧ w'.cell? ⟨w.heap.size, 1, none⟩ = some (.string tg) ∧ w'.cell? ⟨w.heap.size, 2, none⟩ = some (.int .i64 ky) ∧ w'.cell? ⟨w.heap.size, 4, none⟩ = some (.string tx)) x0.drew := ⟨j1, k1, k2, k4⟩
  refine wp_region_last (S := (fun w' : World => w'.cell? ⟨WB, 1, none⟩ = some (.int .i64 (last + 1)) ∧ w'.cell? ⟨w.heap.size, 1, none⟩ = some (.string tg) ∧ w'.cell? ⟨w.heap.size, 2, none⟩ = some (.int .i64 ky) ∧ w'.cell? ⟨w.heap.size, 4, none⟩ = some (.string tx))) (by kernel_rfl) ?_
  refine wpAnyT_take (i := 0) (v := ?va0) rfl (by kernel_rfl) (by kernel_rfl) (by kernel_rfl) (by kernel_rfl) (fun _ _ _ h => h) (Or.inl ⟨by rfl, ?hya0⟩) hS0 ?ra0
  case hya0 => (intro w' hSw; (try obtain ⟨q0, q1, q2, q3⟩ := hSw); simp only [List.getElem_toArray, List.getElem_cons_zero]; go_simp; try (with_reducible rfl))
  simp only [List.getElem_toArray, List.getElem_cons_zero, Act.put, List.setIfInBounds_toArray, List.set_cons_zero, List.set_cons_succ]
  refine wpAnyT_take (i := 1) (v := ?va1) rfl (by kernel_rfl) (by kernel_rfl) (by kernel_rfl) (by kernel_rfl) (fun _ _ _ h => h) (Or.inl ⟨by rfl, ?hya1⟩) hS0 ?ra1
  case hya1 => (intro w' hSw; (try obtain ⟨q0, q1, q2, q3⟩ := hSw); simp only [List.getElem_toArray, List.getElem_cons_zero, List.getElem_cons_succ]; go_simp; try (with_reducible rfl))
  simp only [List.getElem_toArray, List.getElem_cons_zero, List.getElem_cons_succ, Act.put, List.setIfInBounds_toArray, List.set_cons_zero, List.set_cons_succ]
  refine wpAnyT_take (i := 2) (v := ?va2) rfl (by kernel_rfl) (by kernel_rfl) (by kernel_rfl) (by kernel_rfl) (fun _ _ _ h => h) (Or.inl ⟨by rfl, ?hya2⟩) hS0 ?ra2
  case hya2 => (intro w' hSw; (try obtain ⟨q0, q1, q2, q3⟩ := hSw); simp only [List.getElem_toArray, List.getElem_cons_zero, List.getElem_cons_succ]; go_simp; try (with_reducible rfl))
  simp only [List.getElem_toArray, List.getElem_cons_zero, List.getElem_cons_succ, Act.put, List.setIfInBounds_toArray, List.set_cons_zero, List.set_cons_succ]
  refine wpAnyT_take (i := 3) (v := ?va3) rfl (by kernel_rfl) (by kernel_rfl) (by kernel_rfl) (by kernel_rfl) (fun _ _ _ h => h) (Or.inl ⟨by rfl, ?hya3⟩) hS0 ?ra3
  case hya3 => (intro w' hSw; (try obtain ⟨q0, q1, q2, q3⟩ := hSw); simp only [List.getElem_toArray, List.getElem_cons_zero, List.getElem_cons_succ]; go_simp; try (with_reducible rfl))
  simp only [List.getElem_toArray, List.getElem_cons_zero, List.getElem_cons_succ, Act.put, List.setIfInBounds_toArray, List.set_cons_zero, List.set_cons_succ]
  refine wpAnyT_take (i := 4) (v := ?va4) rfl (by kernel_rfl) (by kernel_rfl) (by kernel_rfl) (by kernel_rfl) (fun _ _ _ h => h) (Or.inl ⟨by rfl, ?hya4⟩) hS0 ?ra4
  case hya4 => (intro w' hSw; (try obtain ⟨q0, q1, q2, q3⟩ := hSw); simp only [List.getElem_toArray, List.getElem_cons_zero, List.getElem_cons_succ]; go_simp; try (with_reducible rfl))
  simp only [List.getElem_toArray, List.getElem_cons_zero, List.getElem_cons_succ, Act.put, List.setIfInBounds_toArray, List.set_cons_zero, List.set_cons_succ]
  refine wpAnyT_take (i := 5) (v := ?va5) rfl (by kernel_rfl) (by kernel_rfl) (by kernel_rfl) (by kernel_rfl) (fun _ _ _ h => h) (Or.inl ⟨by rfl, ?hya5⟩) hS0 ?ra5
  case hya5 => (intro w' hSw; (try obtain ⟨q0, q1, q2, q3⟩ := hSw); simp only [List.getElem_toArray, List.getElem_cons_zero, List.getElem_cons_succ]; go_simp; try (with_reducible rfl))
  simp only [List.getElem_toArray, List.getElem_cons_zero, List.getElem_cons_succ, Act.put, List.setIfInBounds_toArray, List.set_cons_zero, List.set_cons_succ]
  refine wpAnyT_take (i := 6) (v := ?va6) rfl (by kernel_rfl) (by kernel_rfl) (by kernel_rfl) (by kernel_rfl) (fun _ _ _ h => h) (Or.inl ⟨by rfl, ?hya6⟩) hS0 ?ra6
  case hya6 => (intro w' hSw; (try obtain ⟨q0, q1, q2, q3⟩ := hSw); simp only [List.getElem_toArray, List.getElem_cons_zero, List.getElem_cons_succ]; go_simp; try (with_reducible rfl))
  simp only [List.getElem_toArray, List.getElem_cons_zero, List.getElem_cons_succ, Act.put, List.setIfInBounds_toArray, List.set_cons_zero, List.set_cons_succ]
  refine wpAnyT_take (i := 7) (v := ?va7) rfl (by kernel_rfl) (by kernel_rfl) (by kernel_rfl) (by kernel_rfl) (fun _ _ _ h => h) (Or.inl ⟨by rfl, ?hya7⟩) hS0 ?ra7
  case hya7 => (intro w' hSw; (try obtain ⟨q0, q1, q2, q3⟩ := hSw); simp only [List.getElem_toArray, List.getElem_cons_zero, List.getElem_cons_succ]; go_simp; try (with_reducible rfl))
  simp only [List.getElem_toArray, List.getElem_cons_zero, List.getElem_cons_succ, Act.put, List.setIfInBounds_toArray, List.set_cons_zero, List.set_cons_succ]
  refine wpAnyT_take (i := 8) (v := ?va8) rfl (by kernel_rfl) (by kernel_rfl) (by kernel_rfl) (by kernel_rfl) (fun _ _ _ h => h) (Or.inl ⟨by rfl, ?hya8⟩) hS0 ?ra8
  case hya8 => (intro w' hSw; (try obtain ⟨q0, q1, q2, q3⟩ := hSw); simp only [List.getElem_toArray, List.getElem_cons_zero, List.getElem_cons_succ]; go_simp; try (with_reducible rfl))
  simp only [List.getElem_toArray, List.getElem_cons_zero, List.getElem_cons_succ, Act.put, List.setIfInBounds_toArray, List.set_cons_zero, List.set_cons_succ]
  refine wpAnyT_take (i := 9) (v := ?va9) rfl (by kernel_rfl) (by kernel_rfl) (by kernel_rfl) (by kernel_rfl) (fun _ _ _ h => h) (Or.inl ⟨by rfl, ?hya9⟩) hS0 ?ra9
  case hya9 => (intro w' hSw; (try obtain ⟨q0, q1, q2, q3⟩ := hSw); simp only [List.getElem_toArray, List.getElem_cons_zero, List.getElem_cons_succ]; go_simp; try (with_reducible rfl))
  simp only [List.getElem_toArray, List.getElem_cons_zero, List.getElem_cons_succ, Act.put, List.setIfInBounds_toArray, List.set_cons_zero, List.set_cons_succ]
  refine wpAnyT_take (i := 10) (v := ?va10) rfl (by kernel_rfl) (by kernel_rfl) (by kernel_rfl) (by kernel_rfl) (fun _ _ _ h => h) (Or.inl ⟨by rfl, ?hya10⟩) hS0 ?ra10
  case hya10 => (intro w' hSw; (try obtain ⟨q0, q1, q2, q3⟩ := hSw); simp only [List.getElem_toArray, List.getElem_cons_zero, List.getElem_cons_succ]; go_simp; try (with_reducible rfl))
  simp only [List.getElem_toArray, List.getElem_cons_zero, List.getElem_cons_succ, Act.put, List.setIfInBounds_toArray, List.set_cons_zero, List.set_cons_succ]
  refine wpAnyT_take (i := 11) (v := ?va11) rfl (by kernel_rfl) (by kernel_rfl) (by kernel_rfl) (by kernel_rfl) (fun _ _ _ h => h) (Or.inl ⟨by rfl, ?hya11⟩) hS0 ?ra11
  case hya11 => (intro w' hSw; (try obtain ⟨q0, q1, q2, q3⟩ := hSw); simp only [List.getElem_toArray, List.getElem_cons_zero, List.getElem_cons_succ]; go_simp; try (with_reducible rfl))
  simp only [List.getElem_toArray, List.getElem_cons_zero, List.getElem_cons_succ, Act.put, List.setIfInBounds_toArray, List.set_cons_zero, List.set_cons_succ]
  refine wpAnyT_one (i := 12) rfl (by kernel_rfl) (by rfl) ?_
  simp only [List.getElem_toArray, List.getElem_cons_zero, List.getElem_cons_succ]
  go_simp
  refine ⟨.inr ?_, ?_⟩
  · exact ((((Below.refl x0.heap.size x0).alloc (Nat.le_refl _) _).cell (p := ⟨WB, 1, none⟩) (World.block_lt_of_cell? _ _ j1))).trans j1
  clear hS0
  refine wpAnyT_one (i := 13) rfl (by kernel_rfl) (by rfl) ?_
  simp only [List.getElem_toArray, List.getElem_cons_zero, List.getElem_cons_succ]
  go_simp
  refine (tell_new B WB pv P (last + 1) x0 HW0.out (by omega) (by omega) 1 (last + 1) 0 0 ky tg ⟨#[]⟩ tx hs1 (by decide) hs2).mono ?_
  rintro e x3 ⟨rfl, pv3, hW3, hT3⟩
  have m0 := hW3.c1
  have m1 := (HFB.out.cell hT3).trans k1
  have m2 := (HFB.out.cell hT3).trans k2
  have m4 := (HFB.out.cell hT3).trans k4
  refine ⟨.inr ⟨m0, m1, m2, m4⟩, ?_⟩
  have s3 : w.heap.size < x3.heap.size := World.block_lt_of_cell? _ _ m1
  have HW3 := hide hW3
  have HT3 := hide (HT0.out.trans hT3)
  clear hW3 hT3 j1 k1 k2 k4
  refine wpAnyT_done (by kernel_rfl) ?_ _
  go_wp2_with fail
  have hS0 : (fun w' : World => w'.cell? ⟨WB, 1, none⟩ = some (.int .i64 (last + 1)) ∧ w'.cell? ⟨w.heap.size, 1, none⟩ = some (.string tg) ∧ w'.cell? ⟨w.heap.size, 2, none⟩ = some (.int .i64 ky) ∧ w'.cell? ⟨w.heap.size, 4, none⟩ = some (.string tx)) x3.drew := ⟨m0, m1, m2, m4⟩
  refine wp_region_last (S := (fun w' : World => w'.cell? ⟨WB, 1, none⟩ = some (.int .i64 (last + 1)) ∧ w'.cell? ⟨w.heap.size, 1, none⟩ = some (.string tg) ∧ w'.cell? ⟨w.heap.size, 2, none⟩ = some (.int .i64 ky) ∧ w'.cell? ⟨w.heap.size, 4, none⟩ = some (.string tx))) (by kernel_rfl) ?_
  refine wpAnyT_take (i := 0) (v := ?vb0) rfl (by kernel_rfl) (by kernel_rfl) (by kernel_rfl) (by kernel_rfl) (fun _ _ _ h => h) (Or.inl ⟨by rfl, ?hyb0⟩) hS0 ?rb0
  case hyb0 => (intro w' hSw; (try obtain ⟨q0, q1, q2, q3⟩ := hSw); simp only [List.getElem_toArray, List.getElem_cons_zero]; go_simp; try (with_reducible rfl))
  simp only [List.getElem_toArray, List.getElem_cons_zero, Act.put, List.setIfInBounds_toArray, List.set_cons_zero, List.set_cons_succ]
  refine wpAnyT_take (i := 1) (v := ?vb1) rfl (by kernel_rfl) (by kernel_rfl) (by kernel_rfl) (by kernel_rfl) (fun _ _ _ h => h) (Or.inl ⟨by rfl, ?hyb1⟩) hS0 ?rb1
  case hyb1 => (intro w' hSw; (try obtain ⟨q0, q1, q2, q3⟩ := hSw); simp only [List.getElem_toArray, List.getElem_cons_zero, List.getElem_cons_succ]; go_simp; try (with_reducible rfl))
  simp only [List.getElem_toArray, List.getElem_cons_zero, List.getElem_cons_succ, Act.put, List.setIfInBounds_toArray, List.set_cons_zero, List.set_cons_succ]
  refine wpAnyT_take (i := 2) (v := ?vb2) rfl (by kernel_rfl) (by kernel_rfl) (by kernel_rfl) (by kernel_rfl) (fun _ _ _ h => h) (Or.inl ⟨by rfl, ?hyb2⟩) hS0 ?rb2
  case hyb2 => (intro w' hSw; (try obtain ⟨q0, q1, q2, q3⟩ := hSw); simp only [List.getElem_toArray, List.getElem_cons_zero, List.getElem_cons_succ]; go_simp; try (with_reducible rfl))
  simp only [List.getElem_toArray, List.getElem_cons_zero, List.getElem_cons_succ, Act.put, List.setIfInBounds_toArray, List.set_cons_zero, List.set_cons_succ]
  refine wpAnyT_take (i := 3) (v := ?vb3) rfl (by kernel_rfl) (by kernel_rfl) (by kernel_rfl) (by kernel_rfl) (fun _ _ _ h => h) (Or.inl ⟨by rfl, ?hyb3⟩) hS0 ?rb3
  case hyb3 => (intro w' hSw; (try obtain ⟨q0, q1, q2, q3⟩ := hSw); simp only [List.getElem_toArray, List.getElem_cons_zero, List.getElem_cons_succ]; go_simp; try (with_reducible rfl))
  simp only [List.getElem_toArray, List.getElem_cons_zero, List.getElem_cons_succ, Act.put, List.setIfInBounds_toArray, List.set_cons_zero, List.set_cons_succ]
  refine wpAnyT_take (i := 4) (v := ?vb4) rfl (by kernel_rfl) (by kernel_rfl) (by kernel_rfl) (by kernel_rfl) (fun _ _ _ h => h) (Or.inl ⟨by rfl, ?hyb4⟩) hS0 ?rb4
  case hyb4 => (intro w' hSw; (try obtain ⟨q0, q1, q2, q3⟩ := hSw); simp only [List.getElem_toArray, List.getElem_cons_zero, List.getElem_cons_succ]; go_simp; try (with_reducible rfl))
  simp only [List.getElem_toArray, List.getElem_cons_zero, List.getElem_cons_succ, Act.put, List.setIfInBounds_toArray, List.set_cons_zero, List.set_cons_succ]
  refine wpAnyT_take (i := 5) (v := ?vb5) rfl (by kernel_rfl) (by kernel_rfl) (by kernel_rfl) (by kernel_rfl) (fun _ _ _ h => h) (Or.inl ⟨by rfl, ?hyb5⟩) hS0 ?rb5
  case hyb5 => (intro w' hSw; (try obtain ⟨q0, q1, q2, q3⟩ := hSw); simp only [List.getElem_toArray, List.getElem_cons_zero, List.getElem_cons_succ]; go_simp; try (with_reducible rfl))
  simp only [List.getElem_toArray, List.getElem_cons_zero, List.getElem_cons_succ, Act.put, List.setIfInBounds_toArray, List.set_cons_zero, List.set_cons_succ]
  refine wpAnyT_take (i := 6) (v := ?vb6) rfl (by kernel_rfl) (by kernel_rfl) (by kernel_rfl) (by kernel_rfl) (fun _ _ _ h => h) (Or.inl ⟨by rfl, ?hyb6⟩) hS0 ?rb6
  case hyb6 => (intro w' hSw; (try obtain ⟨q0, q1, q2, q3⟩ := hSw); simp only [List.getElem_toArray, List.getElem_cons_zero, List.getElem_cons_succ]; go_simp; try (with_reducible rfl))
  simp only [List.getElem_toArray, List.getElem_cons_zero, List.getElem_cons_succ, Act.put, List.setIfInBounds_toArray, List.set_cons_zero, List.set_cons_succ]
  refine wpAnyT_take (i := 7) (v := ?vb7) rfl (by kernel_rfl) (by kernel_rfl) (by kernel_rfl) (by kernel_rfl) (fun _ _ _ h => h) (Or.inl ⟨by rfl, ?hyb7⟩) hS0 ?rb7
  case hyb7 => (intro w' hSw; (try obtain ⟨q0, q1, q2, q3⟩ := hSw); simp only [List.getElem_toArray, List.getElem_cons_zero, List.getElem_cons_succ]; go_simp; try (with_reducible rfl))
  simp only [List.getElem_toArray, List.getElem_cons_zero, List.getElem_cons_succ, Act.put, List.setIfInBounds_toArray, List.set_cons_zero, List.set_cons_succ]
  refine wpAnyT_take (i := 8) (v := ?vb8) rfl (by kernel_rfl) (by kernel_rfl) (by kernel_rfl) (by kernel_rfl) (fun _ _ _ h => h) (Or.inl ⟨by rfl, ?hyb8⟩) hS0 ?rb8
  case hyb8 => (intro w' hSw; (try obtain ⟨q0, q1, q2, q3⟩ := hSw); simp only [List.getElem_toArray, List.getElem_cons_zero, List.getElem_cons_succ]; go_simp; try (with_reducible rfl))
  simp only [List.getElem_toArray, List.getElem_cons_zero, List.getElem_cons_succ, Act.put, List.setIfInBounds_toArray, List.set_cons_zero, List.set_cons_succ]
  refine wpAnyT_take (i := 9) (v := ?vb9) rfl (by kernel_rfl) (by kernel_rfl) (by kernel_rfl) (by kernel_rfl) (fun _ _ _ h => h) (Or.inl ⟨by rfl, ?hyb9⟩) hS0 ?rb9
  case hyb9 => (intro w' hSw; (try obtain ⟨q0, q1, q2, q3⟩ := hSw); simp only [List.getElem_toArray, List.getElem_cons_zero, List.getElem_cons_succ]; go_simp; try (with_reducible rfl))
  simp only [List.getElem_toArray, List.getElem_cons_zero, List.getElem_cons_succ, Act.put, List.setIfInBounds_toArray, List.set_cons_zero, List.set_cons_succ]
  refine wpAnyT_take (i := 10) (v := ?vb10) rfl (by kernel_rfl) (by kernel_rfl) (by kernel_rfl) (by kernel_rfl) (fun _ _ _ h => h) (Or.inl ⟨by rfl, ?hyb10⟩) hS0 ?rb10
  case hyb10 => (intro w' hSw; (try obtain ⟨q0, q1, q2, q3⟩ := hSw); simp only [List.getElem_toArray, List.getElem_cons_zero, List.getElem_cons_succ]; go_simp; try (with_reducible rfl))
  simp only [List.getElem_toArray, List.getElem_cons_zero, List.getElem_cons_succ, Act.put, List.setIfInBounds_toArray, List.set_cons_zero, List.set_cons_succ]
  refine wpAnyT_one (i := 11) rfl (by kernel_rfl) (by rfl) ?_
  simp only [List.getElem_toArray, List.getElem_cons_zero, List.getElem_cons_succ]
  go_simp
  have hx : ∃ x4, x4 = x3.alloc (.cells #[.int .i64 (last + 1), .int .i64 ky, .string tg, .string tx, .slice none 0 0, .pointer none, .slice none 0 0] 79) := ⟨_, rfl⟩
  obtain ⟨x4, hx4⟩ := hx
  rw [← hx4]
  have hb4 : Below x3.heap.size x3 x4 := by rw [hx4]; exact (Below.refl _ _).alloc (Nat.le_refl _) _
  have s4 : x4.heap.size = x3.heap.size + 1 := by rw [hx4]; simp
  have p4 : x4.heap[x3.heap.size]? = some (.cells #[.int .i64 (last + 1), .int .i64 ky, .string tg, .string tx, .slice none 0 0, .pointer none, .slice none 0 0] 79 (0, 0)) := by
    rw [hx4]
    show (x3.heap.push _)[x3.heap.size]? = _
    simp
  have u0 := (hb4.cell (p := ⟨WB, 1, none⟩) (World.block_lt_of_cell? _ _ m0)).trans m0
  have u1 := (hb4.cell (p := ⟨w.heap.size, 1, none⟩) s3).trans m1
  have u2 := (hb4.cell (p := ⟨w.heap.size, 2, none⟩) s3).trans m2
  have u4 := (hb4.cell (p := ⟨w.heap.size, 4, none⟩) s3).trans m4
  refine ⟨.inr u0, ?_⟩
  have HB4 := hide hb4
  have HP4 := hide p4
  clear hS0 hx4 hb4 p4 m0 m1 m2 m4
  refine wpAnyT_one (i := 12) rfl (by kernel_rfl) (by rfl) ?_
  simp only [List.getElem_toArray, List.getElem_cons_zero, List.getElem_cons_succ]
  go_simp
  refine wpAnyT_done (by kernel_rfl) ?_ _
  go_wp2_with fail
  go_ret
  have hd : Below x3.heap.size x3 x4.drew := HB4.out.drew
  refine ⟨x3.heap.size, pv3, rfl, Nat.le_of_lt s3, ⟨by show _ < x4.heap.size; omega, Nat.ne_of_gt HW3.out.lt, fun e => Nat.lt_irrefl _ (HW3.out.row.lt _ e).2⟩, HP4.out, HW3.out.below hd, HT3.out.trans (.of_below hd)⟩
end Go.Proofs.Ytobgcaemnpkbmaa
namespace Go.Proofs.Ytobgcaemnpkbmaa
open Go.RowKit
end Go.Proofs.Ytobgcaemnpkbmaa
namespace Go.Proofs.Ytobgcaemnpkbmaa
open Go.RowKit
def allN (Ns : List (Value × List TN)) : List TN := Ns.flatMap (·.2)
theorem tellOf_app (M N : List TN) : tellOf (M ++ N) = tellOf M ++ tellOf N := by unfold tellOf; rw [List.flatMap_append]
theorem tellOf_one (N : List TN) : ∀ u ∈ tellOf N, u.oneCell' = true := fun u hu => by
  obtain ⟨n, _, h⟩ := List.mem_flatMap.1 hu
  exact n.cells_one u h
theorem allN_take {Ns : List (Value × List TN)} {j : Nat} (hj : j < Ns.length) : allN (Ns.take (j + 1)) = allN (Ns.take j) ++ Ns[j].2 := by
  unfold allN
  rw [List.take_succ_eq_append_getElem hj, List.flatMap_append]
  simp
theorem allN_le {Ns : List (Value × List TN)} (j : Nat) : (allN (Ns.take j)).length ≤ (allN Ns).length := by
  unfold allN
  conv => rhs; rw [← List.take_append_drop j Ns, List.flatMap_append, List.length_append]
  omega
set_option maxHeartbeats 2000000 in
set_option maxRecDepth 100000 in
theorem join_any (B : Nat) (w : World) (n0 : TN) (po : Option Addr) (pc : Nat) (Ns : List (Value × List TN)) (m : Nat) (hN : Ns.length = m) (hB : B ≤ w.heap.size) (hcell : ∀ j, (hj : j < Ns.length) → ∃ pb, po = some ⟨pb, 0, none⟩ ∧ w.cell? ⟨pb, j, none⟩ = some Ns[j].1) (hpb : ∀ a, po = some a → a.block < w.heap.size) (htell : ∀ j, (hj : j < Ns.length) → TellAt B w Ns[j].1 Ns[j].2) (h0 : n0.Ok B w (.slice none 0 0)) (hfar : (n0 :: allN Ns).Pairwise fun m n => n.av.ownBlock = none ∨ n.av.ownBlock ≠ m.av.ownBlock) (hlen : (allN Ns).length ≤ 1000000) (hm : m ≤ 1000000) :
    Calls Try.prog 56 #[.agg #[.int .i64 n0.d, .string n0.tag, .int .i64 n0.key, .slice n0.ao n0.an n0.ac, .string n0.text], .slice po m pc] w fun e w' => ∃ q, e = .returned q ∧ TellAt B w' q (n0 :: allN Ns) ∧ Below w.heap.size w w' ∧ ∀ b, q.ownBlock = some b → w.heap.size ≤ b := by
  obtain ⟨i0, hi, hz0, hz1, hz2⟩ := info_parts nodeInfo'
  have HFin : Hid (∀ (w' : World) (v : Value), w'.ownsRow w.heap.size 28 5 v (n0 :: allN Ns).length (tellOf (n0 :: allN Ns)) → Below w.heap.size w w' → TellAt B w' v (n0 :: allN Ns) ∧ Below w.heap.size w w' ∧ ∀ b, v.ownBlock = some b → w.heap.size ≤ b) := hide fun w' v hrow hb => by
    refine ⟨⟨own_ge hrow hB, fun n hn => ?_, hfar⟩, hb, fun b e => (hrow.lt b e).1⟩
    have hok : ∃ q, n.Ok B w q := by
      rcases List.mem_cons.1 hn with rfl | hn
      · exact ⟨_, h0⟩
      · obtain ⟨p, hp, hn⟩ := List.mem_flatMap.1 hn
        obtain ⟨j, hj, rfl⟩ := List.getElem_of_mem hp
        exact ⟨_, (htell j hj).node n hn⟩
    obtain ⟨q, hok⟩ := hok
    refine ⟨hok.an, hok.tag, hok.text, ownsRow_below hok.row hb, hok.size, ?_⟩
    cases hv : n.av.ownBlock with
    | none => exact .inl rfl
    | some b =>
      right
      intro e
      have h1 := (hok.row.lt b hv).2
      have h2 := (hrow.lt b e.symm).1
      omega
  have HCell := hide hcell
  have HPb := hide hpb
  have HTell := hide htell
  clear hcell hpb htell h0 hfar
  have HN := hide hN
  clear hN
  go_enter Try.func56, Try.ntmps56
  go_wp2_with fail
  generalize hw0 : World.alloc (World.alloc _ _) _ = w0
  have hb0 : Below w.heap.size w w0 := by rw [← hw0]; exact ((Below.refl _ _).alloc (Nat.le_refl _) _).alloc (by simp) _
  have lt0 : w0.heap.size = w.heap.size + 1 + 1 := by rw [← hw0]; simp
  have hr0 : w0.ownsRow w.heap.size 28 5 (.slice (some ⟨w.heap.size + 1, 0, none⟩) 1 1) 1 (tellOf [n0]) := by
    refine ⟨rfl, .inr ⟨w.heap.size + 1, 1, #[.int .i64 n0.d, .string n0.tag, .int .i64 n0.key, .slice n0.ao n0.an n0.ac, .string n0.text], rfl, by omega, ?_, Nat.le_refl _, by decide, rfl, rfl⟩⟩
    have e1 : (w.alloc (.cells #[.int .i64 n0.d, .string n0.tag, .int .i64 n0.key, .slice n0.ao n0.an n0.ac, .string n0.text] 28)).heap.size = w.heap.size + 1 := by simp
    have e2 := heap_alloc_new (w.alloc (.cells #[.int .i64 n0.d, .string n0.tag, .int .i64 n0.key, .slice n0.ao n0.an n0.ac, .string n0.text] 28)) (.cells #[.int .i64 n0.d, .string n0.tag, .int .i64 n0.key, .slice n0.ao n0.an n0.ac, .string n0.text] 28)
    rw [e1] at e2
    rw [← hw0]
    exact e2
  have HR0 := hide hr0
  have HB0 := hide hb0
  clear hw0 hr0 hb0
  go_loopw [5, 7, 12] (fun l _ i wr => ∃ (j : Nat) (v : Value), j ≤ m ∧ v = l ∧ i = .int .i64 j ∧ Hid (wr.ownsRow w.heap.size 28 5 v (n0 :: allN (Ns.take j)).length (tellOf (n0 :: allN (Ns.take j)))) ∧ Hid (Below w.heap.size w wr)) (fun _ _ i _ => m - (intOf i).toNat)
  case atStart => exact ⟨0, _, Nat.zero_le _, rfl, rfl, HR0, HB0⟩
  case round =>
    obtain ⟨j, v, hj, rfl, rfl, hrow, hbel⟩ := hrel
    by_cases hlt : j < m
    · have hjl : j < Ns.length := by have := HN.out; omega
      obtain ⟨pb, hpo, cj⟩ := HCell.out j hjl
      have hpl := HPb.out _ hpo
      subst hpo
      have dj : wr.cell? ⟨pb, j, none⟩ = some Ns[j].1 := (hbel.out.cell (p := ⟨pb, j, none⟩) hpl).trans cj
      have hT := (HTell.out j hjl).row
      obtain ⟨ao, ac, hq⟩ := own_shape hT
      rw [hq] at dj hT
      have hji : (j : Int) < (m : Int) := by omega
      have hNj : (allN (Ns.take j)).length + Ns[j].2.length ≤ 1000000 := by
        have := allN_le (Ns := Ns) (j + 1)
        rw [allN_take hjl, List.length_append] at this
        omega
      have HNews : Hid (∀ a, ao = some a → ∀ k u, (tellOf Ns[j].2)[k]? = some u → wr.cell? (a.add k) = some u) := hide fun a ha k u hu => by
        have hk := (List.getElem?_eq_some_iff.1 hu).1
        rw [hT.1] at hk
        rcases hT.2 with ⟨e, _⟩ | ⟨g, cap, cur, e, _⟩
        · rw [ha] at e; cases e
        · rw [ha] at e
          have e := (Value.slice.inj e).1
          have e := Option.some.inj e
          subst e
          rw [ha] at hT
          have hTb := ownsRow_below hT hbel.out
          have := hTb.cellAt k hk
          rw [hu] at this
          have e3 : (⟨g, 0, none⟩ : Addr).add k = ⟨g, k, none⟩ := by
            by_cases hk0 : k = 0
            · subst hk0; simp [Addr.add]
            · simp [Addr.add, hk0]
          rw [e3]
          exact this
      have HNone : Hid (ao = none → Ns[j].2.length = 0 ∧ ac = 0) := hide fun e => by
        rcases hT.2 with ⟨e1, e2⟩ | ⟨g, cap, cur, e1, _⟩
        · exact ⟨e2, (Value.slice.inj e1).2.2⟩
        · rw [e] at e1; cases (Value.slice.inj e1).1
      have HL : Hid ((tellOf Ns[j].2).length = Ns[j].2.length * 5) := hide (tellOf_length _)
      have hsz := hbel.out.size
      have hl1 : (n0 :: allN (Ns.take j)).length = (allN (Ns.take j)).length + 1 := rfl
      have HE : Hid (tellOf (n0 :: allN (Ns.take j)) ++ tellOf Ns[j].2 = tellOf (n0 :: allN (Ns.take (j + 1))) ∧ (n0 :: allN (Ns.take j)).length + Ns[j].2.length = (n0 :: allN (Ns.take (j + 1))).length) := hide (by
        rw [allN_take hjl, ← tellOf_app]
        refine ⟨rfl, ?_⟩
        rw [← List.cons_append, List.length_append])
      have hlong : (n0 :: allN (Ns.take j)).length + Ns[j].2.length ≤ 1000001 := by rw [hl1]; omega
      clear hT hq cj hl1 hNj
      have HOne := hide (tellOf_one Ns[j].2)
      generalize Ns[j].2 = Nj at *
      generalize (n0 :: allN (Ns.take j)).length = LN at *
      generalize Nj.length = LJ at *
      go_wp2_with (first | (at_builtin; refine wpList_app _ rfl (.tmp 16) (.tmp 17) 22 rfl w.heap.size 28 i0 _ 5 72 Try.underlying22 hi hz0 hz1 hz2 rfl v LN _ rfl (unhide hrow) ao LJ ac (tellOf Nj) rfl (unhide HNone) (unhide HL) (unhide HNews) (unhide HOne) (by omega) (by omega) (by omega) ?_; intro v2 w2 ho2 hg2 _))
      refine ⟨⟨j + 1, v2, by omega, rfl, by go_num, hide (by rw [← HE.out.1, ← HE.out.2]; exact ho2.out), hide ?_⟩, by simp [intOf]; omega⟩
      exact hbel.out.grown hg2.out.by hsz (fun b hb => (hrow.out.lt b hb).1)
    · have hjm : j = m := by omega
      subst hjm
      have HR : Hid (wr.ownsRow w.heap.size 28 5 v (n0 :: allN Ns).length (tellOf (n0 :: allN Ns))) := by
        rw [← HN.out, List.take_length] at hrow
        exact hrow
      have HF := hide (HFin.out wr v HR.out hbel.out)
      go_wp2_with fail
      go_ret
      exact ⟨_, rfl, HF.out⟩
end Go.Proofs.Ytobgcaemnpkbmaa
