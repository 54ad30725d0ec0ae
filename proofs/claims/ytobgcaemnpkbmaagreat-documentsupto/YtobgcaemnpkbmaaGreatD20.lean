/- DoC -/
import Derived.Test.YtobgcaemnpkbmaaGreatD13
import Derived.Test.YtobgcaemnpkbmaaGreatD14
namespace Go.Proofs.YtobgcaemnpkbmaaGreat
open Go.RowKit
attribute [local go_sem ↓] Go.wp_at_zero Go.wp_at_succ
set_option maxRecDepth 100000 in
set_option maxHeartbeats 4000000 in
theorem do_create (S : Nat → Prop) (p : Nat) (R : List RN) (last : Int) (v : Value) (x : Pat) (hx : x.Ok) (hk : x.kind = 1) (w : World) (hl0 : 0 ≤ last) (hl1 : last ≤ 4611686018427387904) (h : RefAt S w p R last v) :
    Calls Tryz.prog 37 #[.pointer (some ⟨p, 0, none⟩), x.val] w fun e w' => e = .returned (.bool (createB R.length last x)) ∧ Touch S w w' ∧
      Either (createB R.length last x) (∃ v', RefAt (andNew S w w') w' p (R ++ [newRN x]) x.id v') (RefAt S w' p R last v) := by
  obtain ⟨i0, hi, hz0, hz1, hz2⟩ := info_parts refInfo
  obtain ⟨kd, id, pa, bf, ky, tg, nm, tx⟩ := x
  obtain ⟨ht, hnm, htx⟩ := hx
  simp only at hk ht hnm htx
  subst hk
  obtain ⟨ao, cap, rfl⟩ := h.nil
  have hfew := h.few
  have hp := h.lt
  have c0 := h.c0
  have c1 := h.c1
  have c2 := h.c2
  have f0 := h.f0
  have f2 := h.f2
  have HR := hide h
  clear h
  have HC : Hid (∀ r, createB R.length last ⟨1, id, pa, bf, ky, tg, nm, tx⟩ = r → createB R.length last ⟨1, id, pa, bf, ky, tg, nm, tx⟩ = r) := fun _ h => h
  unfold Pat.val
  simp only []
  generalize hone : oneB (nodOf tg ky tx) = one at *
  have HS : Hid (∀ w, Calls Tryz.prog 23 #[.agg #[.int .i64 0, .string tg, .int .i64 ky, .slice none 0 0, .string tx]] w fun e w' => e = .returned (.bool one) ∧ Below w.heap.size w w') := hide fun w => single_is (nodOf tg ky tx) one hone w (nodOf_ok w ky ht htx)
  have HCr : Hid (createB R.length last ⟨1, id, pa, bf, ky, tg, nm, tx⟩ = (one && (id == last + 1) && decide (R.length < 800) && (pa == 0) && (bf == 0) && nm.toList.isEmpty)) := by
    refine hide ?_
    unfold createB
    simp only []
    rw [hone]
  clear hone HC
  go_enter Tryz.func37, Tryz.ntmps37
  go_wp2_with (first | (go_at_call 23; refine (unhide HS _).mono ?_; rintro e w2 ⟨rfl, hb2⟩))
  have hbx : Below w.heap.size w w2 := ((Below.refl _ _).alloc (Nat.le_refl _) _).trans (hb2.mono (by simp))
  have hlt : w.heap.size < (w.alloc (.cells #[.int .i64 1, .int .i64 id, .int .i64 pa, .int .i64 bf, .int .i64 ky, .string tg, .string nm, .string tx] 29)).heap.size := by simp
  have q1 : w2.cell? ⟨w.heap.size, 1, none⟩ = some (.int .i64 id) := (hb2.cell (p := ⟨w.heap.size, 1, none⟩) hlt).trans (by simp [go_sem])
  have q2 : w2.cell? ⟨w.heap.size, 2, none⟩ = some (.int .i64 pa) := (hb2.cell (p := ⟨w.heap.size, 2, none⟩) hlt).trans (by simp [go_sem])
  have q3 : w2.cell? ⟨w.heap.size, 3, none⟩ = some (.int .i64 bf) := (hb2.cell (p := ⟨w.heap.size, 3, none⟩) hlt).trans (by simp [go_sem])
  have q4 : w2.cell? ⟨w.heap.size, 4, none⟩ = some (.int .i64 ky) := (hb2.cell (p := ⟨w.heap.size, 4, none⟩) hlt).trans (by simp [go_sem])
  have q5 : w2.cell? ⟨w.heap.size, 5, none⟩ = some (.string tg) := (hb2.cell (p := ⟨w.heap.size, 5, none⟩) hlt).trans (by simp [go_sem])
  have q6 : w2.cell? ⟨w.heap.size, 6, none⟩ = some (.string nm) := (hb2.cell (p := ⟨w.heap.size, 6, none⟩) hlt).trans (by simp [go_sem])
  have q7 : w2.cell? ⟨w.heap.size, 7, none⟩ = some (.string tx) := (hb2.cell (p := ⟨w.heap.size, 7, none⟩) hlt).trans (by simp [go_sem])
  have r0 := (hbx.cell (p := ⟨p, 0, none⟩) hp).trans c0
  have r1 := (hbx.cell (p := ⟨p, 1, none⟩) hp).trans c1
  have r2 := (hbx.cell (p := ⟨p, 2, none⟩) hp).trans c2
  have rf0 := (hbx.frozen (p := ⟨p, 0, none⟩) hp).trans f0
  have rf2 := (hbx.frozen (p := ⟨p, 2, none⟩) hp).trans f2
  have HB2 := hide hbx
  have hs2 := hbx.size
  have hs2' : w.heap.size < w2.heap.size := Nat.lt_of_lt_of_le hlt hb2.size
  clear hb2 hbx hlt c0 c1 c2 f0 f2
  cases one with
  | false =>
    have HN : Hid (createB R.length last ⟨1, id, pa, bf, ky, tg, nm, tx⟩ = false) := by rw [HCr.out]; simp [Hid]
    clear HCr
    go_big_quiet (fail)
    go_wp2
    go_ret
    rw [HN.out]
    exact ⟨rfl, Touch.of_below (drewN_of HB2.out _), Either.no (HR.out.below (drewN_of HB2.out _))⟩
  | true =>
    by_cases hid : id = last + 1
    · have ib : (id != last + 1) = false := by simp [hid]
      have Hid' := hide hid
      by_cases hle : R.length < 800
      · have lb : decide ((800 : Int) ≤ (R.length : Int)) = false := by simp; omega
        by_cases hpa : pa = 0
        · have pb : (pa != 0) = false := by simp [hpa]
          by_cases hbf : bf = 0
          · have bb : (bf != 0) = false := by simp [hbf]
            cases hnm' : nm.toList.isEmpty with
            | true =>
              have HY : Hid (createB R.length last ⟨1, id, pa, bf, ky, tg, nm, tx⟩ = true) := by rw [HCr.out]; simp [Hid, hid, hle, hpa, hbf, hnm']
              clear HCr hpa hbf hid
              go_big_quiet (fail)
              rename_i nq
              generalize hwq : w2.drewN nq = wq
              have hbq : Below w2.heap.size w2 wq := by rw [← hwq]; exact drewN_of (Below.refl _ _) nq
              have hsq : wq.heap.size = w2.heap.size := by rw [← hwq]; rfl
              clear hwq
              have HBq := hide (HB2.out.trans (hbq.mono hs2))
              have HRq := hide (HR.out.below HBq.out)
              have k1 := (hbq.cell (p := ⟨w.heap.size, 1, none⟩) hs2').trans q1
              have k4 := (hbq.cell (p := ⟨w.heap.size, 4, none⟩) hs2').trans q4
              have k5 := (hbq.cell (p := ⟨w.heap.size, 5, none⟩) hs2').trans q5
              have k7 := (hbq.cell (p := ⟨w.heap.size, 7, none⟩) hs2').trans q7
              have j0 := HRq.out.c0
              have j1 := HRq.out.c1
              have j2 := HRq.out.c2
              have jf0 := HRq.out.f0
              have jf2 := HRq.out.f2
              have lw : w.heap.size < wq.heap.size := by omega
              have lp : p < wq.heap.size := by omega
              have pne : w.heap.size ≠ p := by omega
              have pne' : p ≠ w.heap.size := by omega
              clear hbq q1 q2 q3 q4 q5 q6 q7 r0 r1 r2 rf0 rf2 hsq
              go_wp2_with fail
              generalize hws : wq.setCell ⟨p, 2, none⟩ (.int .i64 id) = ws
              have z0 : ws.cell? ⟨p, 0, none⟩ = some (.slice ao R.length cap) := by rw [← hws]; simp [go_sem, j0]
              have z1 : ws.cell? ⟨p, 1, none⟩ = some (.int .i64 1) := by rw [← hws]; simp [go_sem, j1]
              have z2 : ws.cell? ⟨p, 2, none⟩ = some (.int .i64 id) := by rw [← hws]; simp [go_sem, j2]
              have zf0 : ws.frozen? ⟨p, 0, none⟩ = false := by rw [← hws]; simp [go_sem, jf0]
              have zf2 : ws.frozen? ⟨p, 2, none⟩ = false := by rw [← hws]; simp [go_sem, jf2]
              have y1 : ws.cell? ⟨w.heap.size, 1, none⟩ = some (.int .i64 id) := by rw [← hws, World.cell?_of_block (Below.heap_setCell _ _ _ _ pne)]; exact k1
              have y4 : ws.cell? ⟨w.heap.size, 4, none⟩ = some (.int .i64 ky) := by rw [← hws, World.cell?_of_block (Below.heap_setCell _ _ _ _ pne)]; exact k4
              have y5 : ws.cell? ⟨w.heap.size, 5, none⟩ = some (.string tg) := by rw [← hws, World.cell?_of_block (Below.heap_setCell _ _ _ _ pne)]; exact k5
              have y7 : ws.cell? ⟨w.heap.size, 7, none⟩ = some (.string tx) := by rw [← hws, World.cell?_of_block (Below.heap_setCell _ _ _ _ pne)]; exact k7
              have hss : ws.heap.size = wq.heap.size := by rw [← hws]; exact size_setCell' _ _ _
              have HSb : Hid (∀ b, b ≠ p → ws.heap[b]? = wq.heap[b]?) := hide fun b hb => by rw [← hws]; exact Below.heap_setCell _ _ _ _ hb
              have HSo : Hid (ws.os = wq.os ∧ ws.tape = wq.tape ∧ ws.output = wq.output) := hide (by rw [← hws]; exact ⟨rfl, rfl, rfl⟩)
              have HRow : Hid (ws.ownsRow 0 91 6 (.slice ao R.length cap) R.length (rowOf R)) := hide (by
                rw [← hws]
                exact own_set HRq.out.row (by
                  cases hv : Value.ownBlock (.slice ao R.length cap) with
                  | none => exact .inl rfl
                  | some b => exact .inr (fun e => (HRq.out.srow b hv).2 (Option.some.inj e))))
              have np : some p ≠ Value.ownBlock (.slice ao R.length cap) := fun e => (HRq.out.srow p e.symm).2 rfl
              have nw : some w.heap.size ≠ Value.ownBlock (.slice ao R.length cap) := fun e => by
                have := (HR.out.row.lt w.heap.size e.symm).2
                omega
              have lw : w.heap.size < ws.heap.size := by omega
              have lp : p < ws.heap.size := by omega
              have HSS := hide hss
              clear hws k1 k4 k5 k7 j0 j1 j2 jf0 jf2 hss
              have zfa : ∀ O, (ws.alloc O).frozen? ⟨p, 0, none⟩ = false := fun O => (World.frozen?_of_block (w := ws) (Below.heap_alloc _ _ _ lp)).trans zf0
              have zca : ∀ O, (ws.alloc O).cell? ⟨p, 0, none⟩ = some (.slice ao R.length cap) := fun O => (World.cell?_of_block (w := ws) (Below.heap_alloc _ _ _ lp)).trans z0
              have zcd : ∀ O, (ws.alloc O).drew.cell? ⟨p, 0, none⟩ = some (.slice ao R.length cap) := fun O => zca O
              have zfd : ∀ O, (ws.alloc O).drew.frozen? ⟨p, 0, none⟩ = false := fun O => zfa O
              have x0 := World.new_ne ws _ z0
              have x1 := World.new_ne ws _ y1
              have hS0 : (fun w' => w'.frozen? ⟨p, 0, none⟩ = false ∧ w'.cell? ⟨p, 0, none⟩ = some (.slice ao R.length cap) ∧ w'.cell? ⟨w.heap.size, 1, none⟩ = some (.int .i64 id) ∧ w'.cell? ⟨w.heap.size, 4, none⟩ = some (.int .i64 ky) ∧ w'.cell? ⟨w.heap.size, 5, none⟩ = some (.string tg) ∧ w'.cell? ⟨w.heap.size, 7, none⟩ = some (.string tx)) ws.drew := ⟨zf0, z0, y1, y4, y5, y7⟩
              refine wp_region_last (S := (fun w' => w'.frozen? ⟨p, 0, none⟩ = false ∧ w'.cell? ⟨p, 0, none⟩ = some (.slice ao R.length cap) ∧ w'.cell? ⟨w.heap.size, 1, none⟩ = some (.int .i64 id) ∧ w'.cell? ⟨w.heap.size, 4, none⟩ = some (.int .i64 ky) ∧ w'.cell? ⟨w.heap.size, 5, none⟩ = some (.string tg) ∧ w'.cell? ⟨w.heap.size, 7, none⟩ = some (.string tx))) (by kernel_rfl) ?_
              refine wpAnyT_take (i := 0) (v := ?v0) rfl (by kernel_rfl) (by kernel_rfl) (by kernel_rfl) (by kernel_rfl) (fun _ _ _ h => h) (Or.inl ⟨by rfl, ?hy0⟩) hS0 ?r0
              case hy0 => (intro w' hSw; (try dsimp only at hSw); simp only [List.getElem_toArray, List.getElem_cons_zero]; go_simp; try (with_reducible rfl))
              simp only [List.getElem_toArray, List.getElem_cons_zero, Act.put, List.setIfInBounds_toArray, List.set_cons_zero, List.set_cons_succ]
              refine wpAnyT_take (i := 1) (v := ?v1) rfl (by kernel_rfl) (by kernel_rfl) (by kernel_rfl) (by kernel_rfl) (fun _ _ _ h => h) (Or.inl ⟨by rfl, ?hy1⟩) hS0 ?r1
              case hy1 => (intro w' hSw; (try dsimp only at hSw); simp only [List.getElem_toArray, List.getElem_cons_zero, List.getElem_cons_succ]; go_simp; try (with_reducible rfl))
              simp only [List.getElem_toArray, List.getElem_cons_zero, List.getElem_cons_succ, Act.put, List.setIfInBounds_toArray, List.set_cons_zero, List.set_cons_succ]
              refine wpAnyT_take (i := 2) (v := ?v2) rfl (by kernel_rfl) (by kernel_rfl) (by kernel_rfl) (by kernel_rfl) (fun _ _ _ h => h) (Or.inl ⟨by rfl, ?hy2⟩) hS0 ?r2
              case hy2 => (intro w' hSw; (try dsimp only at hSw); simp only [List.getElem_toArray, List.getElem_cons_zero, List.getElem_cons_succ]; go_simp; try (with_reducible rfl))
              simp only [List.getElem_toArray, List.getElem_cons_zero, List.getElem_cons_succ, Act.put, List.setIfInBounds_toArray, List.set_cons_zero, List.set_cons_succ]
              refine wpAnyT_take (i := 3) (v := ?v3) rfl (by kernel_rfl) (by kernel_rfl) (by kernel_rfl) (by kernel_rfl) (fun _ _ _ h => h) (Or.inl ⟨by rfl, ?hy3⟩) hS0 ?r3
              case hy3 => (intro w' hSw; (try dsimp only at hSw); simp only [List.getElem_toArray, List.getElem_cons_zero, List.getElem_cons_succ]; go_simp; try (with_reducible rfl))
              simp only [List.getElem_toArray, List.getElem_cons_zero, List.getElem_cons_succ, Act.put, List.setIfInBounds_toArray, List.set_cons_zero, List.set_cons_succ]
              refine wpAnyT_take (i := 4) (v := ?v4) rfl (by kernel_rfl) (by kernel_rfl) (by kernel_rfl) (by kernel_rfl) (fun _ _ _ h => h) (Or.inl ⟨by rfl, ?hy4⟩) hS0 ?r4
              case hy4 => (intro w' hSw; (try dsimp only at hSw); simp only [List.getElem_toArray, List.getElem_cons_zero, List.getElem_cons_succ]; go_simp; try (with_reducible rfl))
              simp only [List.getElem_toArray, List.getElem_cons_zero, List.getElem_cons_succ, Act.put, List.setIfInBounds_toArray, List.set_cons_zero, List.set_cons_succ]
              refine wpAnyT_take (i := 5) (v := ?v5) rfl (by kernel_rfl) (by kernel_rfl) (by kernel_rfl) (by kernel_rfl) (fun _ _ _ h => h) (Or.inl ⟨by rfl, ?hy5⟩) hS0 ?r5
              case hy5 => (intro w' hSw; (try dsimp only at hSw); simp only [List.getElem_toArray, List.getElem_cons_zero, List.getElem_cons_succ]; go_simp; try (with_reducible rfl))
              simp only [List.getElem_toArray, List.getElem_cons_zero, List.getElem_cons_succ, Act.put, List.setIfInBounds_toArray, List.set_cons_zero, List.set_cons_succ]
              refine wpAnyT_take (i := 6) (v := ?v6) rfl (by kernel_rfl) (by kernel_rfl) (by kernel_rfl) (by kernel_rfl) (fun _ _ _ h => h) (Or.inl ⟨by rfl, ?hy6⟩) hS0 ?r6
              case hy6 => (intro w' hSw; (try dsimp only at hSw); simp only [List.getElem_toArray, List.getElem_cons_zero, List.getElem_cons_succ]; go_simp; try (with_reducible rfl))
              simp only [List.getElem_toArray, List.getElem_cons_zero, List.getElem_cons_succ, Act.put, List.setIfInBounds_toArray, List.set_cons_zero, List.set_cons_succ]
              refine wpAnyT_take (i := 7) (v := ?v7) rfl (by kernel_rfl) (by kernel_rfl) (by kernel_rfl) (by kernel_rfl) (fun _ _ _ h => h) (Or.inl ⟨by rfl, ?hy7⟩) hS0 ?r7
              case hy7 => (intro w' hSw; (try dsimp only at hSw); simp only [List.getElem_toArray, List.getElem_cons_zero, List.getElem_cons_succ]; go_simp; try (with_reducible rfl))
              simp only [List.getElem_toArray, List.getElem_cons_zero, List.getElem_cons_succ, Act.put, List.setIfInBounds_toArray, List.set_cons_zero, List.set_cons_succ]
              refine wpAnyT_take (i := 8) (v := ?v8) rfl (by kernel_rfl) (by kernel_rfl) (by kernel_rfl) (by kernel_rfl) (fun _ _ _ h => h) (Or.inl ⟨by rfl, ?hy8⟩) hS0 ?r8
              case hy8 => (intro w' hSw; (try dsimp only at hSw); simp only [List.getElem_toArray, List.getElem_cons_zero, List.getElem_cons_succ]; go_simp; try (with_reducible rfl))
              simp only [List.getElem_toArray, List.getElem_cons_zero, List.getElem_cons_succ, Act.put, List.setIfInBounds_toArray, List.set_cons_zero, List.set_cons_succ]
              refine wpAnyT_take (i := 9) (v := ?v9) rfl (by kernel_rfl) (by kernel_rfl) (by kernel_rfl) (by kernel_rfl) (fun _ _ _ h => h) (Or.inl ⟨by rfl, ?hy9⟩) hS0 ?r9
              case hy9 => (intro w' hSw; (try dsimp only at hSw); simp only [List.getElem_toArray, List.getElem_cons_zero, List.getElem_cons_succ]; go_simp; try (with_reducible rfl))
              simp only [List.getElem_toArray, List.getElem_cons_zero, List.getElem_cons_succ, Act.put, List.setIfInBounds_toArray, List.set_cons_zero, List.set_cons_succ]
              refine wpAnyT_take (i := 10) (v := ?v10) rfl (by kernel_rfl) (by kernel_rfl) (by kernel_rfl) (by kernel_rfl) (fun _ _ _ h => h) (Or.inl ⟨by rfl, ?hy10⟩) hS0 ?r10
              case hy10 => (intro w' hSw; (try dsimp only at hSw); simp only [List.getElem_toArray, List.getElem_cons_zero, List.getElem_cons_succ]; go_simp; try (with_reducible rfl))
              simp only [List.getElem_toArray, List.getElem_cons_zero, List.getElem_cons_succ, Act.put, List.setIfInBounds_toArray, List.set_cons_zero, List.set_cons_succ]
              refine wpAnyT_take (i := 11) (v := ?v11) rfl (by kernel_rfl) (by kernel_rfl) (by kernel_rfl) (by kernel_rfl) (fun _ _ _ h => h) (Or.inl ⟨by rfl, ?hy11⟩) hS0 ?r11
              case hy11 => (intro w' hSw; (try dsimp only at hSw); simp only [List.getElem_toArray, List.getElem_cons_zero, List.getElem_cons_succ]; go_simp; try (with_reducible rfl))
              simp only [List.getElem_toArray, List.getElem_cons_zero, List.getElem_cons_succ, Act.put, List.setIfInBounds_toArray, List.set_cons_zero, List.set_cons_succ]
              refine wpAnyT_take (i := 12) (v := ?v12) rfl (by kernel_rfl) (by kernel_rfl) (by kernel_rfl) (by kernel_rfl) (fun _ _ _ h => h) (Or.inl ⟨by rfl, ?hy12⟩) hS0 ?r12
              case hy12 => (intro w' hSw; (try dsimp only at hSw); simp only [List.getElem_toArray, List.getElem_cons_zero, List.getElem_cons_succ]; go_simp; try (with_reducible rfl))
              simp only [List.getElem_toArray, List.getElem_cons_zero, List.getElem_cons_succ, Act.put, List.setIfInBounds_toArray, List.set_cons_zero, List.set_cons_succ]
              refine wpAnyT_take (i := 13) (v := ?v13) rfl (by kernel_rfl) (by kernel_rfl) (by kernel_rfl) (by kernel_rfl) (fun _ _ _ h => h) (Or.inl ⟨by rfl, ?hy13⟩) hS0 ?r13
              case hy13 => (intro w' hSw; (try dsimp only at hSw); simp only [List.getElem_toArray, List.getElem_cons_zero, List.getElem_cons_succ]; go_simp; try (with_reducible rfl))
              simp only [List.getElem_toArray, List.getElem_cons_zero, List.getElem_cons_succ, Act.put, List.setIfInBounds_toArray, List.set_cons_zero, List.set_cons_succ]
              refine wpAnyT_one (i := 14) rfl (by kernel_rfl) (by rfl) ?_
              simp only [List.getElem_toArray, List.getElem_cons_zero, List.getElem_cons_succ]
              go_simp
              refine wpAnyT_one (i := 15) rfl (by kernel_rfl) (by rfl) ?_
              simp only [List.getElem_toArray, List.getElem_cons_zero, List.getElem_cons_succ]
              refine wp_append_lies _ _ _ _ (by rfl) 0 91 i0 _ 6 80 Tryz.underlying87 hi hz0 hz1 hz2 rfl (by omega) (.slice ao R.length cap) R.length (rowOf R) (by rfl) ((World.ownsRow.alloc (unhide HRow) _).drew) ⟨ws.heap.size, 0, none⟩ 1 1 [.int .i64 id, .int .i64 0, .string tg, .int .i64 ky, .slice none 0 0, .string tx] (by rfl) (by rfl) (World.news_of_block (cs := #[.int .i64 id, .int .i64 0, .string tg, .int .i64 ky, .slice none 0 0, .string tx]) (t := 91) (fr := (0, 0)) (heap_alloc_new ws _)) (by simp [Value.oneCell']) (by omega) (by unfold maxLen; omega) (by omega) (Nat.zero_le _) (ws.heap.size + 1) (by simp) ?_
              intro gg cap1 w3 hown3 hgrow hat hlt3
              have g0 : w3.frozen? ⟨p, 0, none⟩ = false := (hgrow.frozen_far ⟨p, 0, none⟩ (by simp; omega) np).trans (zfd _)
              have g1 : w3.cell? ⟨p, 0, none⟩ = some (.slice ao R.length cap) := (hgrow.cell_far ⟨p, 0, none⟩ (by simp; omega) np).trans (zcd _)
              have ga : ∀ j, w3.cell? ⟨w.heap.size, j, none⟩ = ws.cell? ⟨w.heap.size, j, none⟩ := fun j => (hgrow.cell_far ⟨w.heap.size, j, none⟩ (by simp; omega) nw).trans (World.cell?_of_block (w := ws) (Below.heap_alloc _ _ _ lw))
              refine ⟨.inr ⟨g0, g1, (ga 1).trans y1, (ga 4).trans y4, (ga 5).trans y5, (ga 7).trans y7⟩, ?_⟩
              have HO3 := hide hown3
              have HG3 := hide hgrow
              have s1 := (ga 1).trans y1
              have s4 := (ga 4).trans y4
              have s5 := (ga 5).trans y5
              have s7 := (ga 7).trans y7
              clear hown3 hgrow ga
              simp only [Act.put, List.setIfInBounds_toArray, List.set_cons_zero, List.set_cons_succ]
              refine wpAnyT_one (i := 16) rfl (by kernel_rfl) (by rfl) ?_
              simp only [List.getElem_toArray, List.getElem_cons_zero, List.getElem_cons_succ]
              go_simp
              refine wpAnyT_one (i := 17) rfl (by kernel_rfl) (by rfl) ?_
              simp only [List.getElem_toArray, List.getElem_cons_zero, List.getElem_cons_succ]
              go_simp
              refine wpAnyT_one (i := 18) rfl (by kernel_rfl) (by rfl) ?_
              simp only [List.getElem_toArray, List.getElem_cons_zero, List.getElem_cons_succ]
              go_simp
              refine ⟨by kernel_rfl, ?_⟩
              refine wpAnyT_done (by kernel_rfl) ?_ _
              go_wp2_with fail
              go_ret
              have hgrow := HG3.out
              have hss := HSS.out
              have hbq := HBq.out
              have hsz3 : ws.heap.size + 1 ≤ w3.heap.size := by have := hgrow.size; simpa using this
              have hblk : ∀ b, b < w.heap.size → b ≠ p → some b ≠ Value.ownBlock (.slice ao R.length cap) → (w3.setCell ⟨p, 0, none⟩ (.slice (some ⟨gg, 0, none⟩) (R.length + 1) cap1)).heap[b]? = w.heap[b]? := by
                intro b hb hbp hbr
                have h1 := Below.heap_setCell w3 ⟨p, 0, none⟩ (.slice (some ⟨gg, 0, none⟩) (R.length + 1) cap1) b hbp
                have h2 := hgrow.block b (by simp; omega) hbr
                have h3 := Below.heap_alloc ws (.cells #[.int .i64 id, .int .i64 0, .string tg, .int .i64 ky, .slice none 0 0, .string tx] 91) b (by omega)
                exact ((h1.trans h2).trans h3).trans ((HSb.out b hbp).trans (hbq.block b hb))
              have hsR := HR.out.srow
              have hgp : gg ≠ p := by
                rcases hat with e | e
                · exact (hsR gg e).2
                · omega
              have hSg : S gg ∨ (w.heap.size ≤ gg ∧ gg < w3.heap.size) := by
                rcases hat with e | e
                · exact .inl (hsR gg e).1
                · exact .inr ⟨by omega, hlt3⟩
              have hne : ∀ b, b < w.heap.size → some b ≠ Value.ownBlock (.slice ao R.length cap) → some b ≠ some gg := by
                intro b hb hbr e
                have e' := Option.some.inj e
                subst e'
                rcases hat with e | e
                · exact hbr e.symm
                · omega
              rw [HY.out]
              refine ⟨rfl, ⟨?_, ?_, ?_, ?_, ?_⟩, Either.yes ⟨.slice (some ⟨gg, 0, none⟩) (R.length + 1) cap1, ?_⟩⟩
              · exact hgrow.os.trans (HSo.out.1.trans hbq.os)
              · exact hgrow.tape.trans (HSo.out.2.1.trans hbq.tape)
              · exact hgrow.output.trans (HSo.out.2.2.trans hbq.output)
              · rw [size_setCell']; omega
              · intro b hb hbS
                refine hblk b hb (fun e => hbS (by rw [e]; exact HR.out.sp)) (fun e => hbS (hsR b e.symm).1)
              · refine HR.out.build (fun b _ h => .inl h) (by rw [size_setCell']; omega) ?_ ?_ ?_ ?_ ?_ ?_ ?_ ?_ ?_ ?_
                · simp [go_sem, g1]
                · have : w3.cell? ⟨p, 1, none⟩ = some (.int .i64 1) := (hgrow.cell_far ⟨p, 1, none⟩ (by simp; omega) np).trans ((World.cell?_of_block (w := ws) (Below.heap_alloc _ _ _ lp)).trans z1)
                  simp [go_sem, this]
                · have : w3.cell? ⟨p, 2, none⟩ = some (.int .i64 id) := (hgrow.cell_far ⟨p, 2, none⟩ (by simp; omega) np).trans ((World.cell?_of_block (w := ws) (Below.heap_alloc _ _ _ lp)).trans z2)
                  simp [go_sem, this]
                · simp [go_sem, g0]
                · have : w3.frozen? ⟨p, 2, none⟩ = false := (hgrow.frozen_far ⟨p, 2, none⟩ (by simp; omega) np).trans ((World.frozen?_of_block (w := ws) (Below.heap_alloc _ _ _ lp)).trans zf2)
                  simp [go_sem, this]
                · rw [List.length_append, rowOf_snoc]
                  exact own_set HO3.out (.inr (fun e => hgp (Option.some.inj e)))
                · intro g' e
                  have e' : gg = g' := Option.some.inj e
                  subst e'
                  exact ⟨hSg.imp (fun h => h) (fun h => ⟨h.1, by rw [size_setCell']; exact h.2⟩), hgp⟩
                · rw [List.length_append]; exact hle
                · intro n hn
                  rcases List.mem_append.1 hn with hn | hn
                  · exact .inl hn
                  · have := List.mem_singleton.1 hn
                    subst this
                    exact .inr ⟨⟨rfl, Nat.zero_le _, fun _ => ⟨rfl, rfl⟩, ht, htx, fun _ hj => absurd hj (Nat.not_lt_zero _), fun ad e => by cases e⟩, fun ad e => by cases e⟩
                · intro n hn ad e
                  have ha := HR.out.apart n hn ad e
                  have hl := ((HR.out.node n hn).own ad e).2
                  exact ⟨hblk ad.block hl ha.1 ha.2, hne ad.block hl ha.2⟩
            | false =>
              have HN : Hid (createB R.length last ⟨1, id, pa, bf, ky, tg, nm, tx⟩ = false) := by rw [HCr.out, hnm']; simp [Hid]
              clear HCr hid hpa hbf
              go_big_quiet (fail)
              go_wp2
              go_ret
              rw [HN.out]
              exact ⟨rfl, Touch.of_below (drewN_of HB2.out _), Either.no (HR.out.below (drewN_of HB2.out _))⟩
          · have bb : (bf != 0) = true := by simp [hbf]
            have HN : Hid (createB R.length last ⟨1, id, pa, bf, ky, tg, nm, tx⟩ = false) := by rw [HCr.out]; simp [Hid, hbf]
            clear HCr hid hpa hbf
            go_big_quiet (fail)
            go_wp2
            go_ret
            rw [HN.out]
            exact ⟨rfl, Touch.of_below (drewN_of HB2.out _), Either.no (HR.out.below (drewN_of HB2.out _))⟩
        · have pb : (pa != 0) = true := by simp [hpa]
          have HN : Hid (createB R.length last ⟨1, id, pa, bf, ky, tg, nm, tx⟩ = false) := by rw [HCr.out]; simp [Hid, hpa]
          clear HCr hid hpa
          go_big_quiet (fail)
          go_wp2
          go_ret
          rw [HN.out]
          exact ⟨rfl, Touch.of_below (drewN_of HB2.out _), Either.no (HR.out.below (drewN_of HB2.out _))⟩
      · have lb : decide ((800 : Int) ≤ (R.length : Int)) = true := by simp; omega
        have HN : Hid (createB R.length last ⟨1, id, pa, bf, ky, tg, nm, tx⟩ = false) := by rw [HCr.out]; simp [Hid, hle]
        clear HCr hid
        go_big_quiet (fail)
        go_wp2
        go_ret
        rw [HN.out]
        exact ⟨rfl, Touch.of_below (drewN_of HB2.out _), Either.no (HR.out.below (drewN_of HB2.out _))⟩
    · have ib : (id != last + 1) = true := by simp [hid]
      have HN : Hid (createB R.length last ⟨1, id, pa, bf, ky, tg, nm, tx⟩ = false) := by rw [HCr.out]; simp [Hid, hid]
      clear HCr hid
      go_big_quiet (fail)
      go_wp2
      go_ret
      rw [HN.out]
      exact ⟨rfl, Touch.of_below (drewN_of HB2.out _), Either.no (HR.out.below (drewN_of HB2.out _))⟩
end Go.Proofs.YtobgcaemnpkbmaaGreat
