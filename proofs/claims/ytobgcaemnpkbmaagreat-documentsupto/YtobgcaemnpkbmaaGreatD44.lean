/- Lo -/
import Derived.Test.YtobgcaemnpkbmaaGreatD43
namespace Go.Proofs.YtobgcaemnpkbmaaGreat
open Go.RowKit
theorem made_bare {L : Nat → Nod} {n : Nat} {R : List RN} (hl : R.length = n) (h : ∀ i, (hi : i < R.length) → MadeOf L i R[i]) : bareL R = bareL (madeR L n) := by
  apply bareL_plain
  apply List.ext_getElem
  · simp [hl, madeR_length]
  · intro i h1 h2
    rw [List.getElem_map, List.getElem_map, madeR_get]
    have hi : i < R.length := by simpa using h1
    obtain ⟨a1, a2, a3, a4, a5, a6⟩ := h i hi
    have e : R[i].toPN = ⟨R[i].id, R[i].par, R[i].tag, R[i].key, R[i].text, R[i].ats⟩ := rfl
    rw [e, a1, a2, a3, a4, a5, a6]
    rfl
structure Fresh (w0 : World) (L : Nat → Nod) (n : Nat) (ρ : Roles) (nb : Int → Nat) (mb q db : Nat) (w : World) : Prop where
  ldb : w0.heap.size ≤ db
  blk : w.heap[db]? = some (.cells #[.pointer (some ⟨q, 0, none⟩)] 84 (0, 0))
  role : ∀ b, (ρ b).isSome = true → w0.heap.size ≤ b ∧ b ≠ db
  dom : Dom ρ nb mb (some (nb 1)) w q (madeR L n) n
  below : Below w0.heap.size w0 w
theorem Fresh.grow {w0 : World} {L : Nat → Nod} {n : Nat} {ρ : Roles} {nb : Int → Nat} {mb q db : Nat} {w w' : World} (h : Fresh w0 L n ρ nb mb q db w) (hb : Below w.heap.size w w') : Fresh w0 L n ρ nb mb q db w' :=
  ⟨h.ldb, (hb.block db (lt_of_blk h.blk)).trans h.blk, h.role, h.dom.below hb, h.below.trans (hb.mono h.below.size)⟩
theorem lent_new (b o n : Nat) (L : Nat → Nod) (G : Nat → Nat) (w w3 : World) (hn : n * 72 ≤ 140737488351232) (h : ListAt w (some ⟨b, o, none⟩) n L) (hin : In L n) (hz : (checkOut (mayB L) n).1 = 0) (hb3 : Below w.heap.size w w3)
    (hr : w3.rowIs w.heap.size 33 ((n + 3) * 5) (nodesCell (lentN L G n))) (hR : RowsAt w3 L G w.heap.size n) :
    Calls Tryz.prog 10 #[.slice (lentAo (some ⟨b, o, none⟩) w.heap.size) (lentLen (some ⟨b, o, none⟩) n) (lentCap (some ⟨b, o, none⟩) n)] w3 fun e w5 => ∃ ρ nb mb q db, e = .returned (.tuple #[.pointer (some ⟨db, 0, none⟩), .int .i64 0, .int .i64 0]) ∧ Below w3.heap.size w3 w5 ∧ ∀ w6, Touch (lentS L G w.heap.size n) w5 w6 → Below w.heap.size w w6 → Fresh w L n ρ nb mb q db w6 := by
  obtain ⟨hco, hn0, hn4, hmay⟩ := check_zero hz
  have hmay' : ∀ i, i < n → mayB (lentN L G n) i = true := fun i hi => by
    rw [alike_may (L' := L) fun j hj => by unfold lentN; rw [if_pos (by omega)]; exact newN_alike _ _]
    exact hmay i hi
  have hT := lent_tree (some ⟨b, o, none⟩) n L G w w3 hn h hin hr hR
  have e1 : lentAo (some ⟨b, o, none⟩) w.heap.size = some ⟨w.heap.size, 0, none⟩ := by unfold lentAo; rw [if_neg (by simp)]
  have e2 : lentLen (some ⟨b, o, none⟩) n = n := by unfold lentLen; rw [if_neg (by simp)]
  have e3 : lentCap (some ⟨b, o, none⟩) n = n + 3 := by unfold lentCap; rw [if_neg (by simp)]
  rw [e1, e2, e3] at hT ⊢
  rw [hco] at hT
  obtain ⟨g, o', eg, hN⟩ := lent_list h hin hr hR hn0
  obtain ⟨rfl, rfl⟩ : w.heap.size = g ∧ 0 = o' := by simp at eg; exact eg
  have hP := pnew_ok w.heap.size 0 n (n + 3) (lentN L G n) w3 hn0 hn4 hN (NewOk.of hn0 hmay') (hide hT)
  refine (wrap_new (some ⟨w.heap.size, 0, none⟩) n (n + 3) w3 (fun q w' => ∃ ρ nb mb, w3.heap.size ≤ q ∧ (∀ b, (ρ b).isSome = true → w3.heap.size ≤ b) ∧ Dom ρ nb mb (some (nb 1)) w' q (madeR (lentN L G n) n) n ∧ Below w3.heap.size w3 w') (hide (hP.mono ?_))).mono ?_
  · rintro e w' ⟨ρ, nb, mb, q, rfl, h1, h2, h3, h4⟩
    exact ⟨q, rfl, ρ, nb, mb, h1, h2, h3, h4⟩
  · rintro e w5 ⟨q, w4, ⟨ρ, nb, mb, h1, h2, h3, h4⟩, rfl, rfl⟩
    have hb5 : Below w3.heap.size w3 (w4.alloc (.cells #[.pointer (some ⟨q, 0, none⟩)] 84)) := h4.alloc h4.size _
    refine ⟨ρ, nb, mb, q, w4.heap.size, rfl, hb5, fun w6 ht hb6 => ?_⟩
    have hno : ∀ b, w3.heap.size ≤ b → ¬ lentS L G w.heap.size n b := fun b hb e => by
      rcases e with e | ⟨i, hi, hne, e⟩
      · have := hr.lt; omega
      · have := (hR.row i hi hne).lt; omega
    have hs3 := h4.size
    have hsw := hb3.size
    have hz5 : (w4.alloc (.cells #[.pointer (some ⟨q, 0, none⟩)] 84)).heap.size = w4.heap.size + 1 := by simp
    refine ⟨by omega, (ht.block _ (by omega) (hno _ hs3)).trans (by show (w4.heap.push _)[w4.heap.size]? = _; simp), fun b e => ⟨by have := h2 b e; omega, by have := h3.low b e; omega⟩, ?_, hb6⟩
    rw [madeR_lent] at h3
    exact (h3.below ((Below.refl _ _).alloc (Nat.le_refl _) _)).touch ht fun b e => hno b (h2 b e)
theorem lent_ref (b o n c : Nat) (L : Nat → Nod) (w : World) (h : ListIn w (some ⟨b, o, none⟩) n L) (hz : (checkOut (mayB L) n).1 = 0) :
    Calls Tryz.prog 15 #[.slice (some ⟨b, o, none⟩) n c] w fun e w' => e = .returned (.pointer (some ⟨w.heap.size, 0, none⟩)) ∧ Below w.heap.size w w' ∧ ∃ R' v', RefAt (fun b => w.heap.size ≤ b) w' w.heap.size R' n v' ∧ bareL R' = bareL (madeR L n) := by
  obtain ⟨hco, hn0, hn4, hmay⟩ := check_zero hz
  obtain ⟨b', o', e, hN⟩ := h.at' hn0
  simp at e
  obtain ⟨rfl, rfl⟩ := e
  have hok := NewOk.of hn0 hmay
  refine (newDom_any b o n c L w hn4 hN hok.deep (fun i hi h0 => ⟨hok.par i hi h0, ?_⟩) hok.an (fun i hi e => ⟨h.inn.nil i hi e, h.cap i hi e⟩)).mono ?_
  · have := (parentOf_lt L i i).2; omega
  · rintro e w' ⟨rfl, hb, R, v, h1, h2, h3⟩
    exact ⟨rfl, hb, R, v, h1, made_bare h2 h3⟩
set_option maxHeartbeats 2000000 in
set_option maxRecDepth 100000 in
theorem made_good (W0 : World) (own : Owns) (w : World) (wb : Nat) (Ps : List PD) (m : Nat) (k : Int) (h : LawOk W0 own w wb Ps m k) (hm : m ≤ 4294967296) (hk : 400 ≤ k) (ao : Option Addr) (n c : Nat) (L : Nat → Nod) (hl : ListIn w ao n L) (hz : (checkOut (mayB L) n).1 = 0) :
    Calls Tryz.prog 6 #[.pointer (some ⟨wb, 0, none⟩), .slice ao n c] w fun e w' => e = .returned (.bool true) ∧ ∃ own' D, LawOk W0 own' w' wb (Ps ++ [D]) (m + 1) k := by
  obtain ⟨hco, hn0, hn4, hmay⟩ := check_zero hz
  obtain ⟨b, o, rfl, hN0⟩ := hl.at' hn0
  obtain ⟨vp, t1, t2, t3, t4⟩ := h.top
  obtain ⟨ap, cp, rfl⟩ := own_shape t3
  obtain ⟨i0, hi, hz0, hz1, hz2⟩ := info_parts pairInfo
  have hwb : wb < w.heap.size := (h.low wb (by rw [h.wo]; rfl)).2
  have HL := hide h
  have HI := hide hl
  have hn := hl.len
  have HOk : Hid (DocOk (madeR L n) n ∧ Fine (madeR L n)) := hide ⟨made_ok hn0 hmay, made_fine hmay⟩
  have hfewP : Ps.length ≤ 4294967296 := Nat.le_trans h.few hm
  have HRow := hide t3
  have HVo := hide t4
  have HT : Hid (∀ w3 G, Below w.heap.size w w3 → w3.rowIs w.heap.size 33 ((n + 3) * 5) (nodesCell (lentN L G n)) → RowsAt w3 L G w.heap.size n → Calls Tryz.prog 10 #[.slice (lentAo (some ⟨b, o, none⟩) w.heap.size) (lentLen (some ⟨b, o, none⟩) n) (lentCap (some ⟨b, o, none⟩) n)] w3 fun e w5 => ∃ ρ nb mb q db, e = .returned (.tuple #[.pointer (some ⟨db, 0, none⟩), .int .i64 0, .int .i64 0]) ∧ Below w3.heap.size w3 w5 ∧ ∀ w6, Touch (lentS L G w.heap.size n) w5 w6 → Below w.heap.size w w6 → Fresh w L n ρ nb mb q db w6) := hide fun w3 G hb3 hr hR => lent_new b o n L G w w3 hn hl.at' hl.inn hz hb3 hr hR
  have HC : Hid (∀ w6, Below w.heap.size w w6 → Calls Tryz.prog 13 #[.slice (some ⟨b, o, none⟩) n c] w6 fun e w' => e = .returned (.tuple #[.int .i64 0, .int .i64 0]) ∧ Below w6.heap.size w6 w') := hide fun w6 hb6 => by
    have := refCheck_any (some ⟨b, o, none⟩) n c L w6 (by unfold maxLen; omega) (hl.at'.below hb6)
    rw [hco] at this
    exact this
  have HN : Hid (∀ w8, Below w.heap.size w w8 → Calls Tryz.prog 15 #[.slice (some ⟨b, o, none⟩) n c] w8 fun e w' => e = .returned (.pointer (some ⟨w8.heap.size, 0, none⟩)) ∧ Below w8.heap.size w8 w' ∧ ∃ R' v', RefAt (fun b => w8.heap.size ≤ b) w' w8.heap.size R' n v' ∧ bareL R' = bareL (madeR L n)) := hide fun w8 hb8 => lent_ref b o n c L w8 ⟨hl.at'.below hb8, hl.inn, hl.cap, hl.len⟩ hz
  clear hl hN0 h t3 t4 hco hmay hz
  go_enter Tryz.func6, Tryz.ntmps6
  go_wp2_with fail
  refine (nodes_any (some ⟨b, o, none⟩) n c L w hn HI.out.at' HI.out.inn).mono ?_
  rintro e w3 ⟨rfl, hb3, G, hr3, hR3⟩
  have Hr := hide hr3
  have HR := hide hR3
  clear hr3 hR3
  go_wp2_with fail
  refine (lent_any (some ⟨b, o, none⟩) w.heap.size n c w3 (by omega)).mono ?_
  rintro e w4 ⟨rfl, rfl⟩
  go_wp2_with fail
  refine (unhide HT _ G hb3 (unhide Hr) (unhide HR)).mono ?_
  rintro e w5 ⟨ρ, nb, mb, q, db, rfl, hb5, hfr⟩
  obtain ⟨hG, hW⟩ := whole_of (unhide Hr) (unhide HR) hb3 hb5
  have HG := hide hG
  have HW := hide hW
  have HF := hide hfr
  clear hG hW hfr
  go_wp2_with fail
  refine (whole_any w (some ⟨b, o, none⟩) n c L G _ hn HI.out.at' HI.out.inn (unhide HG) (unhide HW)).mono ?_
  rintro e w6 ⟨rfl, hb6, ht6⟩
  have HF6 := hide (HF.out w6 ht6 hb6)
  clear HF HW HG Hr HR ht6 hb5 hb3 HT
  go_wp2_with fail
  refine (unhide HC _ hb6).mono ?_
  rintro e w7 ⟨rfl, hb7⟩
  have HF7 := hide (HF6.out.grow hb7)
  have hbw7 := HF7.out.below
  have c7 : w7.cell? ⟨wb, 0, none⟩ = some (.slice ap Ps.length cp) := (hbw7.cell (p := ⟨wb, 0, none⟩) hwb).trans t1
  have f7 : w7.frozen? ⟨wb, 0, none⟩ = false := (hbw7.frozen (p := ⟨wb, 0, none⟩) hwb).trans t2
  have HB7 := hide hbw7
  clear hb6 hb7 HF6 HC hbw7 t1 t2
  go_wp2_with (go_at_call 14; refine (num_any _ _).mono ?_; rintro e w7 ⟨rfl, rfl⟩)
  have hS0 : (fun w' : World => w'.frozen? ⟨wb, 0, none⟩ = false ∧ w'.cell? ⟨wb, 0, none⟩ = some (.slice ap Ps.length cp)) w7.drew := ⟨f7, c7⟩
  refine wp_region_last (S := (fun w' : World => w'.frozen? ⟨wb, 0, none⟩ = false ∧ w'.cell? ⟨wb, 0, none⟩ = some (.slice ap Ps.length cp))) (by kernel_rfl) ?_
  refine wpAnyT_take (i := 0) (v := ?v0) rfl (by kernel_rfl) (by kernel_rfl) (by kernel_rfl) (by kernel_rfl) (fun _ _ _ h => h) (Or.inl ⟨by rfl, ?hy0⟩) hS0 ?r0
  case hy0 => (intro w' hSw; (try dsimp only at hSw); simp only [List.getElem_toArray, List.getElem_cons_zero]; go_simp; try (with_reducible rfl))
  simp only [List.getElem_toArray, List.getElem_cons_zero, Act.put, List.setIfInBounds_toArray, List.set_cons_zero, List.set_cons_succ]
  refine wpAnyT_take (i := 1) (v := ?v1) rfl (by kernel_rfl) (by kernel_rfl) (by kernel_rfl) (by kernel_rfl) (fun _ _ _ h => h) (Or.inl ⟨by rfl, ?hy1⟩) hS0 ?r1
  case hy1 => (intro w' hSw; (try dsimp only at hSw); simp only [List.getElem_toArray, List.getElem_cons_zero, List.getElem_cons_succ]; go_simp; try (with_reducible rfl))
  simp only [List.getElem_toArray, List.getElem_cons_zero, List.getElem_cons_succ, Act.put, List.setIfInBounds_toArray, List.set_cons_zero, List.set_cons_succ]
  refine wpAnyT_take (i := 2) (v := ?v2) rfl (by kernel_rfl) (by kernel_rfl) (by kernel_rfl) (by kernel_rfl) (fun _ _ _ h => h) (Or.inl ⟨by rfl, ?hy2⟩) hS0 ?r2
  case hy2 => (intro w' hSw; (try dsimp only at hSw); simp only [List.getElem_toArray, List.getElem_cons_zero, List.getElem_cons_succ]; go_simp; try (with_reducible rfl))
  simp only [List.getElem_toArray, List.getElem_cons_zero, List.getElem_cons_succ, Act.put, List.setIfInBounds_toArray, List.set_cons_zero, List.set_cons_succ]
  refine wpAnyT_take (i := 3) (v := ?v3) rfl (by kernel_rfl) (by kernel_rfl) (by kernel_rfl) (by kernel_rfl) (fun _ _ _ h => h) (Or.inl ⟨by rfl, ?hy3⟩) hS0 ?r3
  case hy3 => (intro w' hSw; (try dsimp only at hSw); simp only [List.getElem_toArray, List.getElem_cons_zero, List.getElem_cons_succ]; go_simp; try (with_reducible rfl))
  simp only [List.getElem_toArray, List.getElem_cons_zero, List.getElem_cons_succ, Act.put, List.setIfInBounds_toArray, List.set_cons_zero, List.set_cons_succ]
  refine wpAnyT_take (i := 4) (v := ?v4) rfl (by kernel_rfl) (by kernel_rfl) (by kernel_rfl) (by kernel_rfl) (fun _ _ _ h => h) (Or.inl ⟨by rfl, ?hy4⟩) hS0 ?r4
  case hy4 => (intro w' hSw; (try dsimp only at hSw); simp only [List.getElem_toArray, List.getElem_cons_zero, List.getElem_cons_succ]; go_simp; try (with_reducible rfl))
  simp only [List.getElem_toArray, List.getElem_cons_zero, List.getElem_cons_succ, Act.put, List.setIfInBounds_toArray, List.set_cons_zero, List.set_cons_succ]
  refine wpAnyT_take (i := 5) (v := ?v5) rfl (by kernel_rfl) (by kernel_rfl) (by kernel_rfl) (by kernel_rfl) (fun _ _ _ h => h) (Or.inl ⟨by rfl, ?hy5⟩) hS0 ?r5
  case hy5 => (intro w' hSw; (try dsimp only at hSw); simp only [List.getElem_toArray, List.getElem_cons_zero, List.getElem_cons_succ]; go_simp; try (with_reducible rfl))
  simp only [List.getElem_toArray, List.getElem_cons_zero, List.getElem_cons_succ, Act.put, List.setIfInBounds_toArray, List.set_cons_zero, List.set_cons_succ]
  refine wpAnyT_take (i := 6) (v := ?v6) rfl (by kernel_rfl) (by kernel_rfl) (by kernel_rfl) (by kernel_rfl) (fun _ _ _ h => h) (Or.inl ⟨by rfl, ?hy6⟩) hS0 ?r6
  case hy6 => (intro w' hSw; (try dsimp only at hSw); simp only [List.getElem_toArray, List.getElem_cons_zero, List.getElem_cons_succ]; go_simp; try (with_reducible rfl))
  simp only [List.getElem_toArray, List.getElem_cons_zero, List.getElem_cons_succ, Act.put, List.setIfInBounds_toArray, List.set_cons_zero, List.set_cons_succ]
  refine wpAnyT_one (i := 7) rfl (by kernel_rfl) (by rfl) ?_
  simp only [List.getElem_toArray, List.getElem_cons_zero, List.getElem_cons_succ]
  go_simp
  refine (unhide HN w7.drew HB7.out.drew).mono ?_
  rintro e w9 ⟨rfl, hb9, R', v', href, hbare⟩
  have hb9 : Below w7.heap.size w7 w9 := (Below.refl w7.heap.size w7).drew.trans hb9
  have href : RefAt (fun b => w7.heap.size ≤ b) w9 w7.heap.size R' n v' := href
  have hwb7 : wb < w7.heap.size := Nat.lt_of_lt_of_le hwb HB7.out.size
  have c9 := (hb9.cell (p := ⟨wb, 0, none⟩) hwb7).trans c7
  have f9 := (hb9.frozen (p := ⟨wb, 0, none⟩) hwb7).trans f7
  refine ⟨.inr ⟨f9, c9⟩, ?_⟩
  have hs9 := hb9.size
  have HB9 := hide hb9
  have HRef := hide href
  have HBare := hide hbare
  clear hb9 href hbare hS0 HN c7 f7
  try simp only [Act.put, List.setIfInBounds_toArray, List.set_cons_zero, List.set_cons_succ]
  refine wpAnyT_one (i := 8) rfl (by kernel_rfl) (by rfl) ?_
  simp only [List.getElem_toArray, List.getElem_cons_zero, List.getElem_cons_succ]
  go_simp
  refine wpAnyT_one (i := 9) rfl (by kernel_rfl) (by rfl) ?_
  simp only [List.getElem_toArray, List.getElem_cons_zero, List.getElem_cons_succ]
  go_simp
  have hwb9 : wb < w9.heap.size := by omega
  generalize hw10 : w9.alloc (.cells #[.pointer (some ⟨db, 0, none⟩), .pointer (some ⟨w7.heap.size, 0, none⟩)] 63) = w10
  have hb10 : Below w9.heap.size w9 w10 := by rw [← hw10]; exact (Below.refl _ _).alloc (Nat.le_refl _) _
  have s10 : w10.heap.size = w9.heap.size + 1 := by rw [← hw10]; simp
  have p10 : w10.heap[w9.heap.size]? = some (.cells #[.pointer (some ⟨db, 0, none⟩), .pointer (some ⟨w7.heap.size, 0, none⟩)] 63 (0, 0)) := by
    rw [← hw10]
    show (w9.heap.push _)[w9.heap.size]? = _
    simp
  have c10 := (hb10.cell (p := ⟨wb, 0, none⟩) hwb9).trans c9
  have f10 := (hb10.frozen (p := ⟨wb, 0, none⟩) hwb9).trans f9
  refine ⟨.inr ⟨f10, c10⟩, ?_⟩
  have HB10 := hide hb10
  have HP10 := hide p10
  have S10 := hide s10
  clear hw10 hb10 p10 c9 f9 s10
  refine wpAnyT_one (i := 10) rfl (by kernel_rfl) (by rfl) ?_
  simp only [List.getElem_toArray, List.getElem_cons_zero, List.getElem_cons_succ]
  go_simp
  have s10 := S10.out
  generalize hw11 : w10.alloc (.cells #[.pointer (some ⟨w9.heap.size, 0, none⟩)] 59) = w11
  have hb11 : Below w10.heap.size w10 w11 := by rw [← hw11]; exact (Below.refl _ _).alloc (Nat.le_refl _) _
  have s11 : w11.heap.size = w10.heap.size + 1 := by rw [← hw11]; simp
  have hnews : ∀ a, some (⟨w10.heap.size, 0, none⟩ : Addr) = some a → ∀ i u, [Value.pointer (some ⟨w9.heap.size, 0, none⟩)][i]? = some u → w11.cell? (a.add i) = some u := by
    rw [← hw11]
    exact cells_new w10 #[.pointer (some ⟨w9.heap.size, 0, none⟩)] 59
  have hwb10 : wb < w10.heap.size := by omega
  have c11 := (hb11.cell (p := ⟨wb, 0, none⟩) hwb10).trans c10
  have f11 := (hb11.frozen (p := ⟨wb, 0, none⟩) hwb10).trans f10
  refine ⟨.inr ⟨f11, c11⟩, ?_⟩
  have hb911 : Below w9.heap.size w9 w11 := HB10.out.trans (hb11.mono (by omega))
  have hb711 : Below w7.heap.size w7 w11 := HB9.out.trans (hb911.mono hs9)
  have hbw11 : Below w.heap.size w w11 := HB7.out.trans (hb711.mono HB7.out.size)
  have HB911 := hide hb911
  have HB711 := hide hb711
  have HBw11 := hide hbw11
  have HP11 := hide ((hb11.block _ (by omega)).trans HP10.out)
  have hrow11 := hide (ownsRow_below HRow.out hbw11)
  clear hw11 hb11 c10 f10 hb911 hb711 hbw11 HB9 HB10 HP10
  refine wpAnyT_one (i := 11) rfl (by kernel_rfl) (by rfl) ?_
  simp only [List.getElem_toArray, List.getElem_cons_zero, List.getElem_cons_succ]
  refine wp_app w11 _ _ 35 (by rfl) 0 59 i0 _ 1 8 Tryz.underlying35 hi hz0 hz1 hz2 rfl (.slice ap Ps.length cp) Ps.length _ (by rfl) hrow11.out (some ⟨w10.heap.size, 0, none⟩) 1 1 [.pointer (some ⟨w9.heap.size, 0, none⟩)] (by rfl) (by simp) rfl hnews (by simp [Value.oneCell']) (by omega) (by omega) (Nat.zero_le _) ?_
  intro v2 w12 hrow12 hg12
  obtain ⟨a2, c2, rfl⟩ := own_shape hrow12
  have s12 : w11.heap.size ≤ w12.heap.size := hg12.size
  have hav : ∀ b, Value.ownBlock (.slice ap Ps.length cp) = some b → b ≠ wb ∧ b < w.heap.size := fun b e => ⟨fun e2 => by have h1 := HVo.out b e; rw [e2, HL.out.wo] at h1; simp at h1, (HRow.out.lt b e).2⟩
  have hq12 : ∀ b, b < w11.heap.size → Value.ownBlock (.slice ap Ps.length cp) ≠ some b → w12.heap[b]? = w11.heap[b]? := fun b hb hn => hg12.by.block b hb (fun e => hn e.symm)
  have hqw : w12.heap[wb]? = w11.heap[wb]? := hq12 wb (by omega) (fun e => (hav _ e).1 rfl)
  have c12 := (World.cell?_of_block (w := w11) (a := ⟨wb, 0, none⟩) hqw).trans c11
  have f12 := (World.frozen?_of_block (w := w11) (a := ⟨wb, 0, none⟩) hqw).trans f11
  refine ⟨.inr ⟨f12, c12⟩, ?_⟩
  have HR12 := hide hrow12
  have HG12 := hide hg12
  have HAv := hide hav
  have HQ12 := hide hq12
  have HQw := hide hqw
  clear hrow12 hg12 hav hq12 hqw c11 f11 hnews hrow11
  try simp only [Act.put, List.setIfInBounds_toArray, List.set_cons_zero, List.set_cons_succ]
  refine wpAnyT_one (i := 12) rfl (by kernel_rfl) (by rfl) ?_
  simp only [List.getElem_toArray, List.getElem_cons_zero, List.getElem_cons_succ]
  go_simp
  refine wpAnyT_one (i := 13) rfl (by kernel_rfl) (by rfl) ?_
  simp only [List.getElem_toArray, List.getElem_cons_zero, List.getElem_cons_succ]
  go_simp
  refine wpAnyT_one (i := 14) rfl (by kernel_rfl) (by rfl) ?_
  simp only [List.getElem_toArray, List.getElem_cons_zero, List.getElem_cons_succ]
  go_simp
  refine ⟨by kernel_rfl, ?_⟩
  refine wpAnyT_done (by kernel_rfl) ?_ _
  go_wp2_with fail
  go_ret
  have hF : ∀ b, b ≠ wb → (w12.setCell ⟨wb, 0, none⟩ (.slice a2 (Ps.length + 1) c2)).heap[b]? = w12.heap[b]? := fun b hb => Below.heap_setCell _ _ _ _ hb
  have hN : ∀ b, w.heap.size ≤ b → b < w11.heap.size → (w12.setCell ⟨wb, 0, none⟩ (.slice a2 (Ps.length + 1) c2)).heap[b]? = w11.heap[b]? := fun b h1 h2 => (hF b (by omega)).trans (HQ12.out b h2 (fun e => by have := (HAv.out b e).2; omega))
  have hsF : (w12.setCell ⟨wb, 0, none⟩ (.slice a2 (Ps.length + 1) c2)).heap.size = w12.heap.size := size_setCell' _ _ _
  have hw7 := HB7.out.size
  have hfr := HF7.out
  have hdb7 : db < w7.heap.size := lt_of_blk hfr.blk
  have hrn : ∀ b, Value.ownBlock (.slice a2 (Ps.length + 1) c2) = some b → Value.ownBlock (.slice ap Ps.length cp) = some b ∨ w11.heap.size ≤ b := fun b e => by
    rcases HG12.out with ⟨e2, _⟩ | ⟨e2, _⟩
    · rw [e] at e2; exact .inl e2.symm
    · rw [e] at e2; have := Option.some.inj e2; exact .inr (by omega)
  obtain ⟨own', hlaw⟩ := HL.out.more (wF := w12.setCell ⟨wb, 0, none⟩ (.slice a2 (Ps.length + 1) c2)) (D := ⟨w9.heap.size, db, q, w7.heap.size, mb, ρ, nb, madeR L n, R', n, v'⟩) (S2 := fun b => w7.heap.size ≤ b ∧ b < w9.heap.size) (vp := .slice ap Ps.length cp) (vp' := .slice a2 (Ps.length + 1) c2) HVo.out
    ⟨HG12.out.by.os.trans HBw11.out.os, HG12.out.by.tape.trans HBw11.out.tape, HG12.out.by.output.trans HBw11.out.output, by rw [hsF]; have := HBw11.out.size; omega, fun b hb hn => (hF b fun e => hn (.inl e)).trans ((HQ12.out b (by omega) fun e => hn (.inr e.symm)).trans (HBw11.out.block b hb))⟩
    (World.cell?_setCell_same _ _ _ c12) ((World.frozen?_setCell ..).trans f12)
    (fun o ho => ⟨(World.cell?_setCell_other _ _ _ _ (fun e => by cases e; omega)).trans ((World.cell?_of_block HQw.out).trans (World.cell?_of_block (HBw11.out.block wb hwb))), (World.frozen?_setCell ..).trans ((frozen_heap HQw.out _).trans (frozen_heap (HBw11.out.block wb hwb) _))⟩)
    (own_set HR12.out (.inr fun e => by
      rcases hrn wb e with e2 | e2
      · exact (HAv.out wb e2).1 rfl
      · omega))
    (fun b e => by
      rcases hrn b e with e2 | e2
      · exact .inl e2
      · refine .inr ⟨by omega, by show b ≠ w9.heap.size; omega, by show b ≠ db; omega, ?_, by show ¬ (_ ∧ _); omega⟩
        show ρ b = none
        cases hρ : ρ b with
        | none => rfl
        | some x => have := hfr.dom.low b (by rw [hρ]; rfl); omega)
    ((hN _ (by show w.heap.size ≤ w9.heap.size; omega) (by show w9.heap.size < _; omega)).trans HP11.out)
    ((hN db hfr.ldb (by omega)).trans ((HB711.out.block db hdb7).trans hfr.blk))
    (by show w.heap.size ≤ w9.heap.size; omega) hfr.ldb
    ((hfr.dom.below HB711.out).heap (by rw [hsF]; omega) fun b e => hN b (hfr.role b e).1 (by have := hfr.dom.low b e; omega))
    (fun b e => by
      have h1 := hfr.dom.low b e
      exact ⟨(hfr.role b e).1, by show b ≠ w9.heap.size; omega, (hfr.role b e).2, by show ¬ (_ ∧ _); omega⟩)
    (RefAt.heap (w := w9) HRef.out (by rw [hsF]; omega) fun b hb e => ⟨(hN b (by omega) (by omega)).trans (HB911.out.block b hb), e, hb⟩)
    (fun b e => ⟨by omega, by rw [hsF]; omega, by show b ≠ w9.heap.size; omega, by show b ≠ db; omega⟩)
    HBare.out HOk.out.1 HOk.out.2 (by show (n : Int) ≤ k; omega)
  exact ⟨rfl, own', _, hlaw⟩
end Go.Proofs.YtobgcaemnpkbmaaGreat
