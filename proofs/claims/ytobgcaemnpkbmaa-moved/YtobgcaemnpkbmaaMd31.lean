/- Fe -/
import Derived.Test.YtobgcaemnpkbmaaMd30
import Derived.Test.YtobgcaemnpkbmaaMd03
namespace Go.Proofs.Ytobgcaemnpkbmaa
open Go.RowKit
def KidsIn (w : World) (ko : Option Addr) (n : Nat) (A : Nat → ByteArray × Int) : Prop :=
  ∀ j, j < n → ∃ g P, ko = some ⟨g, 0, none⟩ ∧ g < w.heap.size ∧ P < w.heap.size ∧ w.cell? ⟨g, j, none⟩ = some (.pointer (some ⟨P, 0, none⟩)) ∧ w.cell? ⟨P, 1, none⟩ = some (.int .i64 (A j).2) ∧ w.cell? ⟨P, 2, none⟩ = some (.string (A j).1) ∧ (A j).1.size ≤ maxLen ∧ I64 (A j).2
def PartsIn (w : World) (po : Option Addr) (m : Nat) (B : Nat → ByteArray × Int) : Prop :=
  ∀ j, j < m → ∃ g b o l c, po = some ⟨g, 0, none⟩ ∧ g < w.heap.size ∧ b < w.heap.size ∧ w.cell? ⟨g, j, none⟩ = some (.slice (some ⟨b, o, none⟩) (l + 1) c) ∧ w.cell? ⟨b, o + 1, none⟩ = some (.string (B j).1) ∧ w.cell? ⟨b, o + 2, none⟩ = some (.int .i64 (B j).2) ∧ (B j).1.size ≤ maxLen ∧ I64 (B j).2 ∧ l ≤ 1000000
def PairsMid (A : Nat → ByteArray × Int) (w : World) (i : Nat) (wr : World) : Prop := LMap wr w.heap.size (placesTo A i) i ∧ LMap wr (w.heap.size + 1) (seenTo A i) i ∧ Below w.heap.size w wr
def PairsEnd (A : Nat → ByteArray × Int) (n : Nat) (B : Nat → ByteArray × Int) (w : World) (j : Nat) (wr : World) : Prop := LMap wr w.heap.size (placesTo A n) n ∧ LMap wr (w.heap.size + 1) (seenTo B j) j ∧ Below w.heap.size w wr
theorem mid_step {A : Nat → ByteArray × Int} {w wr w9 : World} {i : Nat} (h : PairsMid A w i wr) (hi : i < 1000000) (hA : (A i).1.size ≤ maxLen) (hk : I64 (A i).2) (hL : LMap w9 (w.heap.size + 1) (putF (seenTo A i) ⟨(A i).1, (A i).2, 0⟩ ((cntP A (A i) i : Int) + 1)) (i + 1)) (ht : Touch (fun b => b = w.heap.size + 1) wr w9) :
    ∃ w', (Instr.mapUpdate 121 (.map (some w.heap.size)) (.agg #[.string (A i).1, .int .i64 (A i).2, .int .i64 (cntP A (A i) i : Int)]) (.int .i64 i)).run Try.prog w9 = .ok () w' ∧ PairsMid A w (i + 1) w' := by
  obtain ⟨h1, h2, h3⟩ := h
  have hp : LMap w9 w.heap.size (placesTo A i) i := h1.heap (ht.block _ h1.lt (by omega))
  have hc := cntP_le A (A i) i
  obtain ⟨w', hr, hL', hg, hs⟩ := hp.update (by unfold maxLen; omega) (x := ⟨(A i).1, (A i).2, (cntP A (A i) i : Int)⟩) ⟨hA, hk, by show I64 (cntP A (A i) i : Int); unfold I64; omega⟩ i
  refine ⟨w', hr, hL', hL.heap (hg.block _ hL.lt (by simp)), ⟨hg.os.trans (ht.os.trans h3.os), hg.tape.trans (ht.tape.trans h3.tape), hg.output.trans (ht.output.trans h3.output), ?_, fun b hb => ?_⟩⟩
  · have := ht.size; have := h3.size; omega
  · have h3s := h3.size
    have hts := ht.size
    exact (hg.block b (by omega) (fun e => by have := Option.some.inj e; omega)).trans ((ht.block b (by omega) (by omega)).trans (h3.block b hb))
set_option maxHeartbeats 4000000 in
set_option maxRecDepth 100000 in
theorem pairs_any (N : Nat) (ko : Option Addr) (n kc : Nat) (A : Nat → ByteArray × Int) (po : Option Addr) (m pc : Nat) (B : Nat → ByteArray × Int) (w : World) (hN : N < w.heap.size) (hn : n < 1000000) (hm : m < 1000000) (c6 : w.cell? ⟨N, 6, none⟩ = some (.slice ko n kc)) (hK : KidsIn w ko n A) (hP : PartsIn w po m B) :
    Calls Try.prog 77 #[.pointer (some ⟨N, 0, none⟩), .slice po m pc] w fun e w' => ∃ q, e = .returned q ∧ w'.ownsRow w.heap.size 3 1 q m (ints (pairsP A n B m)) ∧ Below w.heap.size w w' := by
  obtain ⟨i0, hi, hz0, hz1, hz2⟩ := info_parts intInfo
  have hmk : ∀ w1 : World, (Instr.makeMap 121 none).run Try.prog w1 = .ok (.map (some w1.heap.size)) (w1.alloc (.map #[] 0)) := fun w1 => run_makeMap _ w1
  have HK := hide hK
  have HP := hide hP
  clear hK hP
  go_enter Try.func77, Try.ntmps77
  go_wp2_with fail
  have hst : PairsMid A w 0 ((w.alloc (.map #[] 0)).alloc (.map #[] 0)) := by
    refine ⟨(LMap.made w).heap ?_, ?_, ((Below.refl _ _).alloc (Nat.le_refl _) _).alloc (by simp) _⟩
    · exact Below.heap_alloc _ _ _ (by simp)
    · have := LMap.made (w.alloc (.map #[] 0))
      rw [World.size_alloc] at this
      exact this
  have HSt := hide hst
  clear hst
  go_loopw [7, 8, 21] (fun _ _ i wr => ∃ k : Nat, k ≤ n ∧ i = .int .i64 k ∧ Hid (PairsMid A w k wr)) (fun _ _ i _ => n - (intOf i).toNat)
  case atStart => exact ⟨0, Nat.zero_le _, rfl, HSt⟩
  case round =>
    obtain ⟨k, hk, rfl, hr⟩ := hrel
    clear HSt
    have hbr := hr.out.2.2
    by_cases hlt : k < n
    · obtain ⟨g, P, hko, hg, hPl, d0, d1, d2, hsz, hik⟩ := HK.out k hlt
      subst hko
      have x0 := (hbr.cell (p := ⟨g, k, none⟩) hg).trans d0
      have x1 := (hbr.cell (p := ⟨P, 1, none⟩) hPl).trans d1
      have x2 := (hbr.cell (p := ⟨P, 2, none⟩) hPl).trans d2
      have hki : (k : Int) < (n : Int) := by omega
      have HC : Hid (∀ w8, w8.heap[w.heap.size + 1]? = wr.heap[w.heap.size + 1]? → Calls Try.prog 94 #[.map (some (w.heap.size + 1)), .string (A k).1, .int .i64 (A k).2] w8 fun e w' => e = .returned (LK.val ⟨(A k).1, (A k).2, cntP A (A k) k⟩) ∧ LMap w' (w.heap.size + 1) (putF (seenTo A k) ⟨(A k).1, (A k).2, 0⟩ ((cntP A (A k) k : Int) + 1)) (k + 1) ∧ Touch (fun b => b = w.heap.size + 1) w8 w') := hide fun w8 h8 => by
        have hc := cntP_le A (A k) k
        exact count_any (w.heap.size + 1) (seenTo A k) k (A k).1 (A k).2 (cntP A (A k) k) w8 (hr.out.2.1.heap h8) (by omega) hsz hik (seen_get A _ _ k) (by omega) (by omega)
      have HS : Hid (∀ w9, LMap w9 (w.heap.size + 1) (putF (seenTo A k) ⟨(A k).1, (A k).2, 0⟩ ((cntP A (A k) k : Int) + 1)) (k + 1) → Touch (fun b => b = w.heap.size + 1) wr w9 → ∃ w', (Instr.mapUpdate 121 (.map (some w.heap.size)) (.agg #[.string (A k).1, .int .i64 (A k).2, .int .i64 (cntP A (A k) k : Int)]) (.int .i64 k)).run Try.prog w9 = .ok () w' ∧ PairsMid A w (k + 1) w') := hide fun w9 h1 h2 => mid_step hr.out (by omega) hsz hik h1 h2
      have hgl : P < wr.heap.size := Nat.lt_of_lt_of_le hPl hbr.size
      have hPw := hPl
      clear d0 d1 d2 hsz hik hr hbr
      generalize (A k).1 = tg at *
      generalize (A k).2 = ky at *
      generalize hcc : (cntP A (A k) k : Int) = cc at *
      simp only [LK.val] at HC
      go_wp2_with fail
      have hS0 : (fun w' : World => w'.cell? ⟨P, 1, none⟩ = some (.int .i64 ky) ∧ w'.cell? ⟨P, 2, none⟩ = some (.string tg)) wr.drew := ⟨x1, x2⟩
      refine wp_region_last (S := (fun w' : World => w'.cell? ⟨P, 1, none⟩ = some (.int .i64 ky) ∧ w'.cell? ⟨P, 2, none⟩ = some (.string tg))) (by kernel_rfl) ?_
      refine wpAnyT_take (i := 0) (v := ?v0) rfl (by kernel_rfl) (by kernel_rfl) (by kernel_rfl) (by kernel_rfl) (fun _ _ _ h => h) (Or.inl ⟨by rfl, ?hy0⟩) hS0 ?r0
      case hy0 => (intro w' hSw; (try obtain ⟨q0, q1⟩ := hSw); simp only [List.getElem_toArray, List.getElem_cons_zero]; go_simp; try (with_reducible rfl))
      simp only [List.getElem_toArray, List.getElem_cons_zero, Act.put, List.setIfInBounds_toArray, List.set_cons_zero, List.set_cons_succ]
      refine wpAnyT_take (i := 1) (v := ?v1) rfl (by kernel_rfl) (by kernel_rfl) (by kernel_rfl) (by kernel_rfl) (fun _ _ _ h => h) (Or.inl ⟨by rfl, ?hy1⟩) hS0 ?r1
      case hy1 => (intro w' hSw; (try obtain ⟨q0, q1⟩ := hSw); simp only [List.getElem_toArray, List.getElem_cons_zero, List.getElem_cons_succ]; go_simp; try (with_reducible rfl))
      simp only [List.getElem_toArray, List.getElem_cons_zero, List.getElem_cons_succ, Act.put, List.setIfInBounds_toArray, List.set_cons_zero, List.set_cons_succ]
      refine wpAnyT_take (i := 2) (v := ?v2) rfl (by kernel_rfl) (by kernel_rfl) (by kernel_rfl) (by kernel_rfl) (fun _ _ _ h => h) (Or.inl ⟨by rfl, ?hy2⟩) hS0 ?r2
      case hy2 => (intro w' hSw; (try obtain ⟨q0, q1⟩ := hSw); simp only [List.getElem_toArray, List.getElem_cons_zero, List.getElem_cons_succ]; go_simp; try (with_reducible rfl))
      simp only [List.getElem_toArray, List.getElem_cons_zero, List.getElem_cons_succ, Act.put, List.setIfInBounds_toArray, List.set_cons_zero, List.set_cons_succ]
      refine wpAnyT_take (i := 3) (v := ?v3) rfl (by kernel_rfl) (by kernel_rfl) (by kernel_rfl) (by kernel_rfl) (fun _ _ _ h => h) (Or.inl ⟨by rfl, ?hy3⟩) hS0 ?r3
      case hy3 => (intro w' hSw; (try obtain ⟨q0, q1⟩ := hSw); simp only [List.getElem_toArray, List.getElem_cons_zero, List.getElem_cons_succ]; go_simp; try (with_reducible rfl))
      simp only [List.getElem_toArray, List.getElem_cons_zero, List.getElem_cons_succ, Act.put, List.setIfInBounds_toArray, List.set_cons_zero, List.set_cons_succ]
      refine wpAnyT_take (i := 4) (v := ?v4) rfl (by kernel_rfl) (by kernel_rfl) (by kernel_rfl) (by kernel_rfl) (fun _ _ _ h => h) (Or.inl ⟨by rfl, ?hy4⟩) hS0 ?r4
      case hy4 => (intro w' hSw; (try obtain ⟨q0, q1⟩ := hSw); simp only [List.getElem_toArray, List.getElem_cons_zero, List.getElem_cons_succ]; go_simp; try (with_reducible rfl))
      simp only [List.getElem_toArray, List.getElem_cons_zero, List.getElem_cons_succ, Act.put, List.setIfInBounds_toArray, List.set_cons_zero, List.set_cons_succ]
      refine wpAnyT_take (i := 5) (v := ?v5) rfl (by kernel_rfl) (by kernel_rfl) (by kernel_rfl) (by kernel_rfl) (fun _ _ _ h => h) (Or.inl ⟨by rfl, ?hy5⟩) hS0 ?r5
      case hy5 => (intro w' hSw; (try obtain ⟨q0, q1⟩ := hSw); simp only [List.getElem_toArray, List.getElem_cons_zero, List.getElem_cons_succ]; go_simp; try (with_reducible rfl))
      simp only [List.getElem_toArray, List.getElem_cons_zero, List.getElem_cons_succ, Act.put, List.setIfInBounds_toArray, List.set_cons_zero, List.set_cons_succ]
      refine wpAnyT_take (i := 6) (v := ?v6) rfl (by kernel_rfl) (by kernel_rfl) (by kernel_rfl) (by kernel_rfl) (fun _ _ _ h => h) (Or.inl ⟨by rfl, ?hy6⟩) hS0 ?r6
      case hy6 => (intro w' hSw; (try obtain ⟨q0, q1⟩ := hSw); simp only [List.getElem_toArray, List.getElem_cons_zero, List.getElem_cons_succ]; go_simp; try (with_reducible rfl))
      simp only [List.getElem_toArray, List.getElem_cons_zero, List.getElem_cons_succ, Act.put, List.setIfInBounds_toArray, List.set_cons_zero, List.set_cons_succ]
      refine wpAnyT_take (i := 7) (v := ?v7) rfl (by kernel_rfl) (by kernel_rfl) (by kernel_rfl) (by kernel_rfl) (fun _ _ _ h => h) (Or.inl ⟨by rfl, ?hy7⟩) hS0 ?r7
      case hy7 => (intro w' hSw; (try obtain ⟨q0, q1⟩ := hSw); simp only [List.getElem_toArray, List.getElem_cons_zero, List.getElem_cons_succ]; go_simp; try (with_reducible rfl))
      simp only [List.getElem_toArray, List.getElem_cons_zero, List.getElem_cons_succ, Act.put, List.setIfInBounds_toArray, List.set_cons_zero, List.set_cons_succ]
      refine wpAnyT_take (i := 8) (v := ?v8) rfl (by kernel_rfl) (by kernel_rfl) (by kernel_rfl) (by kernel_rfl) (fun _ _ _ h => h) (Or.inl ⟨by rfl, ?hy8⟩) hS0 ?r8
      case hy8 => (intro w' hSw; (try obtain ⟨q0, q1⟩ := hSw); simp only [List.getElem_toArray, List.getElem_cons_zero, List.getElem_cons_succ]; go_simp; try (with_reducible rfl))
      simp only [List.getElem_toArray, List.getElem_cons_zero, List.getElem_cons_succ, Act.put, List.setIfInBounds_toArray, List.set_cons_zero, List.set_cons_succ]
      refine wpAnyT_take (i := 9) (v := ?v9) rfl (by kernel_rfl) (by kernel_rfl) (by kernel_rfl) (by kernel_rfl) (fun _ _ _ h => h) (Or.inl ⟨by rfl, ?hy9⟩) hS0 ?r9
      case hy9 => (intro w' hSw; (try obtain ⟨q0, q1⟩ := hSw); simp only [List.getElem_toArray, List.getElem_cons_zero, List.getElem_cons_succ]; go_simp; try (with_reducible rfl))
      simp only [List.getElem_toArray, List.getElem_cons_zero, List.getElem_cons_succ, Act.put, List.setIfInBounds_toArray, List.set_cons_zero, List.set_cons_succ]
      refine wpAnyT_take (i := 11) (v := ?v11) rfl (by kernel_rfl) (by kernel_rfl) (by kernel_rfl) (by kernel_rfl) (fun _ _ _ h => h) (Or.inl ⟨by rfl, ?hy11⟩) hS0 ?r11
      case hy11 => (intro w' hSw; (try obtain ⟨q0, q1⟩ := hSw); simp only [List.getElem_toArray, List.getElem_cons_zero, List.getElem_cons_succ]; go_simp; try (with_reducible rfl))
      simp only [List.getElem_toArray, List.getElem_cons_zero, List.getElem_cons_succ, Act.put, List.setIfInBounds_toArray, List.set_cons_zero, List.set_cons_succ]
      refine wpAnyT_one (i := 10) rfl (by kernel_rfl) (by rfl) ?_
      simp only [List.getElem_toArray, List.getElem_cons_zero, List.getElem_cons_succ]
      go_simp
      refine (unhide HC wr.drew rfl).mono ?_
      rintro e w9 ⟨rfl, hL9, ht9⟩
      have ht9 : Touch (fun b => b = w.heap.size + 1) wr w9 := ⟨ht9.os, ht9.tape, ht9.output, ht9.size, ht9.block⟩
      obtain ⟨w10, hU, hM⟩ := HS.out w9 hL9 ht9
      have y1 : w9.cell? ⟨P, 1, none⟩ = some (.int .i64 ky) := (World.cell?_of_block (ht9.block P hgl (by omega))).trans x1
      have y2 : w9.cell? ⟨P, 2, none⟩ = some (.string tg) := (World.cell?_of_block (ht9.block P hgl (by omega))).trans x2
      refine ⟨.inr ⟨y1, y2⟩, ?_⟩
      have HM := hide hM
      clear hM hL9 ht9 HS HC hS0
      try simp only [Act.put, List.setIfInBounds_toArray, List.set_cons_zero, List.set_cons_succ]
      refine wpAnyT_one (i := 12) rfl (by kernel_rfl) (by rfl) ?_
      simp only [List.getElem_toArray, List.getElem_cons_zero, List.getElem_cons_succ]
      go_simp
      refine ⟨.inl (by kernel_rfl), ?_⟩
      refine wpAnyT_done (by kernel_rfl) ?_ _
      go_wp2_with fail
      go_roundw
      case rel => exact ⟨k + 1, by omega, by go_num, HM⟩
      case measure => simp [intOf]; omega
    · have hkn : k = n := by omega
      subst hkn
      obtain ⟨h1, h2, h3⟩ := hr.out
      have hsq : w.heap.size + 1 < wr.heap.size := h2.lt
      obtain ⟨wc, hcl, hLc, hgc, hsc⟩ := h2.cleared
      have hce : PairsEnd A k B w 0 wc := by
        have hws := h3.size
        refine ⟨h1.heap (hgc.block _ h1.lt (by simp)), hLc, ⟨hgc.os.trans h3.os, hgc.tape.trans h3.tape, hgc.output.trans h3.output, by omega, fun b hb => (hgc.block b (by omega) (fun e => by have := Option.some.inj e; omega)).trans (h3.block b hb)⟩⟩
      have HCe := hide hce
      clear hce hLc hgc hsc h1 h2 h3 hr hsq
      go_wp2_with fail
      go_loopw [9, 11, 12, 13, 42] (fun l _ _ _ i wr => ∃ (j : Nat) (q : Value), j ≤ m ∧ i = .int .i64 j ∧ q = l ∧ Hid (wr.ownsRow w.heap.size 3 1 q j (ints (pairsP A k B j))) ∧ Hid (PairsEnd A k B w j wr) ∧ Hid (∀ b, q.ownBlock = some b → b ≠ w.heap.size ∧ b ≠ w.heap.size + 1)) (fun _ _ _ _ i _ => m - (intOf i).toNat)
      case atStart => exact ⟨0, _, Nat.zero_le _, rfl, rfl, hide (World.ownsRow_nil _ _ _ _), HCe, hide (fun b e => by cases e)⟩
      case round =>
        obtain ⟨j, q, hj, rfl, rfl, hrow, hr, hqn⟩ := hrel
        clear HCe hcl
        have hbr := hr.out.2.2
        by_cases hlt : j < m
        · obtain ⟨g, b, o, l, c, hpo, hg, hbl, d0, d1, d2, hsz, hik, hll⟩ := HP.out j hlt
          subst hpo
          have x0 := (hbr.cell (p := ⟨g, j, none⟩) hg).trans d0
          have x1 := (hbr.cell (p := ⟨b, o + 1, none⟩) hbl).trans d1
          have x2 := (hbr.cell (p := ⟨b, o + 2, none⟩) hbl).trans d2
          have hji : (j : Int) < (m : Int) := by omega
          have hcj := cntP_le B (B j) j
          have hxo : (⟨(B j).1, (B j).2, (cntP B (B j) j : Int)⟩ : LK).Ok := ⟨hsz, hik, by show I64 (cntP B (B j) j : Int); unfold I64; omega⟩
          have HC : Hid (∀ w8, w8.heap[w.heap.size + 1]? = wr.heap[w.heap.size + 1]? → Calls Try.prog 94 #[.map (some (w.heap.size + 1)), .string (B j).1, .int .i64 (B j).2] w8 fun e w' => e = .returned (LK.val ⟨(B j).1, (B j).2, cntP B (B j) j⟩) ∧ LMap w' (w.heap.size + 1) (seenTo B (j + 1)) (j + 1) ∧ Touch (fun b => b = w.heap.size + 1) w8 w') := hide fun w8 h8 =>
            count_any (w.heap.size + 1) (seenTo B j) j (B j).1 (B j).2 (cntP B (B j) j) w8 (hr.out.2.1.heap h8) (by omega) hsz hik (seen_get B _ _ j) (by omega) (by omega)
          obtain ⟨pv, hs, hpv, hpa⟩ : ∃ (pv : Int) (hs : Bool), (∀ w', LMap w' w.heap.size (placesTo A k) k → (Instr.lookup 121 (.map (some w.heap.size)) (.agg #[.string (B j).1, .int .i64 (B j).2, .int .i64 (cntP B (B j) j : Int)]) true).run Try.prog w' = .ok (.tuple #[.int .i64 pv, .bool hs]) w') ∧ (if hs = true then pv else -1) = pairAt A k B j := by
            refine ⟨_, _, fun w' h' => h'.look2 hxo, ?_⟩
            unfold pairAt
            cases placesTo A k ⟨(B j).1, (B j).2, (cntP B (B j) j : Int)⟩ with
            | none => rfl
            | some z => rfl
          have x3 := hpv wr hr.out.1
          have HPv := hide hpv
          have HPa := hide hpa
          have hbs : b < wr.heap.size := Nat.lt_of_lt_of_le hbl hbr.size
          have hws1 : w.heap.size + 1 < wr.heap.size := hr.out.2.1.lt
          have HE := hr
          have HRow := hrow
          obtain ⟨qa, qc, hq⟩ := own_shape hrow.out
          subst hq
          clear d0 d1 d2 hsz hik hxo hpv hpa hrow hr
          generalize (B j).1 = tg at *
          generalize (B j).2 = ky at *
          generalize (cntP B (B j) j : Int) = cc at *
          simp only [LK.val] at HC
          go_wp2_with fail
          have hS0 : (fun w' : World => w'.cell? ⟨b, o + 1, none⟩ = some (.string tg) ∧ w'.cell? ⟨b, o + 2, none⟩ = some (.int .i64 ky) ∧ (Instr.lookup 121 (.map (some w.heap.size)) (.agg #[.string tg, .int .i64 ky, .int .i64 cc]) true).run Try.prog w' = .ok (.tuple #[.int .i64 pv, .bool hs]) w') wr.drew := ⟨x1, x2, HPv.out wr.drew HE.out.1⟩
          refine wp_region_last (S := (fun w' : World => w'.cell? ⟨b, o + 1, none⟩ = some (.string tg) ∧ w'.cell? ⟨b, o + 2, none⟩ = some (.int .i64 ky) ∧ (Instr.lookup 121 (.map (some w.heap.size)) (.agg #[.string tg, .int .i64 ky, .int .i64 cc]) true).run Try.prog w' = .ok (.tuple #[.int .i64 pv, .bool hs]) w')) (by kernel_rfl) ?_
          refine wpAnyT_take (i := 0) (v := ?vb0) rfl (by kernel_rfl) (by kernel_rfl) (by kernel_rfl) (by kernel_rfl) (fun _ _ _ h => h) (Or.inl ⟨by rfl, ?hyb0⟩) hS0 ?rb0
          case hyb0 => (intro w' hSw; (try obtain ⟨q0, q1, q2⟩ := hSw); simp only [List.getElem_toArray, List.getElem_cons_zero]; go_simp; try (with_reducible rfl))
          simp only [List.getElem_toArray, List.getElem_cons_zero, Act.put, List.setIfInBounds_toArray, List.set_cons_zero, List.set_cons_succ]
          refine wpAnyT_take (i := 1) (v := ?vb1) rfl (by kernel_rfl) (by kernel_rfl) (by kernel_rfl) (by kernel_rfl) (fun _ _ _ h => h) (Or.inl ⟨by rfl, ?hyb1⟩) hS0 ?rb1
          case hyb1 => (intro w' hSw; (try obtain ⟨q0, q1, q2⟩ := hSw); simp only [List.getElem_toArray, List.getElem_cons_zero, List.getElem_cons_succ]; go_simp; try (with_reducible rfl))
          simp only [List.getElem_toArray, List.getElem_cons_zero, List.getElem_cons_succ, Act.put, List.setIfInBounds_toArray, List.set_cons_zero, List.set_cons_succ]
          refine wpAnyT_take (i := 2) (v := ?vb2) rfl (by kernel_rfl) (by kernel_rfl) (by kernel_rfl) (by kernel_rfl) (fun _ _ _ h => h) (Or.inl ⟨by rfl, ?hyb2⟩) hS0 ?rb2
          case hyb2 => (intro w' hSw; (try obtain ⟨q0, q1, q2⟩ := hSw); simp only [List.getElem_toArray, List.getElem_cons_zero, List.getElem_cons_succ]; go_simp; try (with_reducible rfl))
          simp only [List.getElem_toArray, List.getElem_cons_zero, List.getElem_cons_succ, Act.put, List.setIfInBounds_toArray, List.set_cons_zero, List.set_cons_succ]
          refine wpAnyT_take (i := 3) (v := ?vb3) rfl (by kernel_rfl) (by kernel_rfl) (by kernel_rfl) (by kernel_rfl) (fun _ _ _ h => h) (Or.inl ⟨by rfl, ?hyb3⟩) hS0 ?rb3
          case hyb3 => (intro w' hSw; (try obtain ⟨q0, q1, q2⟩ := hSw); simp only [List.getElem_toArray, List.getElem_cons_zero, List.getElem_cons_succ]; go_simp; try (with_reducible rfl))
          simp only [List.getElem_toArray, List.getElem_cons_zero, List.getElem_cons_succ, Act.put, List.setIfInBounds_toArray, List.set_cons_zero, List.set_cons_succ]
          refine wpAnyT_take (i := 4) (v := ?vb4) rfl (by kernel_rfl) (by kernel_rfl) (by kernel_rfl) (by kernel_rfl) (fun _ _ _ h => h) (Or.inl ⟨by rfl, ?hyb4⟩) hS0 ?rb4
          case hyb4 => (intro w' hSw; (try obtain ⟨q0, q1, q2⟩ := hSw); simp only [List.getElem_toArray, List.getElem_cons_zero, List.getElem_cons_succ]; go_simp; try (with_reducible rfl))
          simp only [List.getElem_toArray, List.getElem_cons_zero, List.getElem_cons_succ, Act.put, List.setIfInBounds_toArray, List.set_cons_zero, List.set_cons_succ]
          refine wpAnyT_take (i := 5) (v := ?vb5) rfl (by kernel_rfl) (by kernel_rfl) (by kernel_rfl) (by kernel_rfl) (fun _ _ _ h => h) (Or.inl ⟨by rfl, ?hyb5⟩) hS0 ?rb5
          case hyb5 => (intro w' hSw; (try obtain ⟨q0, q1, q2⟩ := hSw); simp only [List.getElem_toArray, List.getElem_cons_zero, List.getElem_cons_succ]; go_simp; try (with_reducible rfl))
          simp only [List.getElem_toArray, List.getElem_cons_zero, List.getElem_cons_succ, Act.put, List.setIfInBounds_toArray, List.set_cons_zero, List.set_cons_succ]
          refine wpAnyT_take (i := 6) (v := ?vb6) rfl (by kernel_rfl) (by kernel_rfl) (by kernel_rfl) (by kernel_rfl) (fun _ _ _ h => h) (Or.inl ⟨by rfl, ?hyb6⟩) hS0 ?rb6
          case hyb6 => (intro w' hSw; (try obtain ⟨q0, q1, q2⟩ := hSw); simp only [List.getElem_toArray, List.getElem_cons_zero, List.getElem_cons_succ]; go_simp; try (with_reducible rfl))
          simp only [List.getElem_toArray, List.getElem_cons_zero, List.getElem_cons_succ, Act.put, List.setIfInBounds_toArray, List.set_cons_zero, List.set_cons_succ]
          refine wpAnyT_take (i := 7) (v := ?vb7) rfl (by kernel_rfl) (by kernel_rfl) (by kernel_rfl) (by kernel_rfl) (fun _ _ _ h => h) (Or.inl ⟨by rfl, ?hyb7⟩) hS0 ?rb7
          case hyb7 => (intro w' hSw; (try obtain ⟨q0, q1, q2⟩ := hSw); simp only [List.getElem_toArray, List.getElem_cons_zero, List.getElem_cons_succ]; go_simp; try (with_reducible rfl))
          simp only [List.getElem_toArray, List.getElem_cons_zero, List.getElem_cons_succ, Act.put, List.setIfInBounds_toArray, List.set_cons_zero, List.set_cons_succ]
          refine wpAnyT_take (i := 8) (v := ?vb8) rfl (by kernel_rfl) (by kernel_rfl) (by kernel_rfl) (by kernel_rfl) (fun _ _ _ h => h) (Or.inl ⟨by rfl, ?hyb8⟩) hS0 ?rb8
          case hyb8 => (intro w' hSw; (try obtain ⟨q0, q1, q2⟩ := hSw); simp only [List.getElem_toArray, List.getElem_cons_zero, List.getElem_cons_succ]; go_simp; try (with_reducible rfl))
          simp only [List.getElem_toArray, List.getElem_cons_zero, List.getElem_cons_succ, Act.put, List.setIfInBounds_toArray, List.set_cons_zero, List.set_cons_succ]
          refine wpAnyT_take (i := 9) (v := ?vb9) rfl (by kernel_rfl) (by kernel_rfl) (by kernel_rfl) (by kernel_rfl) (fun _ _ _ h => h) (Or.inl ⟨by rfl, ?hyb9⟩) hS0 ?rb9
          case hyb9 => (intro w' hSw; (try obtain ⟨q0, q1, q2⟩ := hSw); simp only [List.getElem_toArray, List.getElem_cons_zero, List.getElem_cons_succ]; go_simp; try (with_reducible rfl))
          simp only [List.getElem_toArray, List.getElem_cons_zero, List.getElem_cons_succ, Act.put, List.setIfInBounds_toArray, List.set_cons_zero, List.set_cons_succ]
          refine wpAnyT_one (i := 10) rfl (by kernel_rfl) (by rfl) ?_
          simp only [List.getElem_toArray, List.getElem_cons_zero, List.getElem_cons_succ]
          go_simp
          refine (unhide HC wr.drew rfl).mono ?_
          rintro e w9 ⟨rfl, hL9, ht9⟩
          have ht9 : Touch (fun b => b = w.heap.size + 1) wr w9 := ⟨ht9.os, ht9.tape, ht9.output, ht9.size, ht9.block⟩
          have hp9 : LMap w9 w.heap.size (placesTo A k) k := HE.out.1.heap (ht9.block _ (by omega) (by omega))
          have hs9 := ht9.size
          have y1 : w9.cell? ⟨b, o + 1, none⟩ = some (.string tg) := (World.cell?_of_block (ht9.block b hbs (by omega))).trans x1
          have y2 : w9.cell? ⟨b, o + 2, none⟩ = some (.int .i64 ky) := (World.cell?_of_block (ht9.block b hbs (by omega))).trans x2
          clear hS0
          have hS0 : (fun w' : World => w'.cell? ⟨b, o + 1, none⟩ = some (.string tg) ∧ w'.cell? ⟨b, o + 2, none⟩ = some (.int .i64 ky) ∧ (Instr.lookup 121 (.map (some w.heap.size)) (.agg #[.string tg, .int .i64 ky, .int .i64 cc]) true).run Try.prog w' = .ok (.tuple #[.int .i64 pv, .bool hs]) w') w9 := ⟨y1, y2, HPv.out w9 hp9⟩
          refine ⟨.inr hS0, ?_⟩
          have hb9 : Below w.heap.size w w9 := ⟨ht9.os.trans hbr.os, ht9.tape.trans hbr.tape, ht9.output.trans hbr.output, by have := hbr.size; omega, fun b hb => (ht9.block b (by omega) (by omega)).trans (hbr.block b hb)⟩
          have HE9 := hide (show LMap w9 w.heap.size (placesTo A k) k ∧ LMap w9 (w.heap.size + 1) (seenTo B (j + 1)) (j + 1) ∧ Below w.heap.size w w9 from ⟨hp9, hL9, hb9⟩)
          have HR9 : Hid (w9.ownsRow w.heap.size 3 1 (.slice qa j qc) j (ints (pairsP A k B j))) := hide (own_heap HRow.out fun b e => ht9.block b (HRow.out.lt b e).2 (hqn.out b e).2)
          have hbz := hb9.size
          clear hL9 ht9 hp9 HC hb9 HRow HE hbr x1 x2 x3 y1 y2
          try simp only [Act.put, List.setIfInBounds_toArray, List.set_cons_zero, List.set_cons_succ]
          refine wpAnyT_take (i := 11) (v := ?vb11) rfl (by kernel_rfl) (by kernel_rfl) (by kernel_rfl) (by kernel_rfl) (fun _ _ _ h => h) (Or.inl ⟨by rfl, ?hyb11⟩) hS0 ?rb11
          case hyb11 => (intro w' hSw; (try obtain ⟨q0, q1, q2⟩ := hSw); simp only [List.getElem_toArray, List.getElem_cons_zero, List.getElem_cons_succ]; go_simp; try (with_reducible rfl))
          simp only [List.getElem_toArray, List.getElem_cons_zero, List.getElem_cons_succ, Act.put, List.setIfInBounds_toArray, List.set_cons_zero, List.set_cons_succ]
          refine wpAnyT_take (i := 12) (v := ?vb12) rfl (by kernel_rfl) (by kernel_rfl) (by kernel_rfl) (by kernel_rfl) (fun _ _ _ h => h) (Or.inl ⟨by rfl, ?hyb12⟩) hS0 ?rb12
          case hyb12 => (intro w' hSw; (try obtain ⟨q0, q1, q2⟩ := hSw); simp only [List.getElem_toArray, List.getElem_cons_zero, List.getElem_cons_succ]; go_simp; try (with_reducible rfl))
          simp only [List.getElem_toArray, List.getElem_cons_zero, List.getElem_cons_succ, Act.put, List.setIfInBounds_toArray, List.set_cons_zero, List.set_cons_succ]
          refine wpAnyT_take (i := 13) (v := ?vb13) rfl (by kernel_rfl) (by kernel_rfl) (by kernel_rfl) (by kernel_rfl) (fun _ _ _ h => h) (Or.inl ⟨by rfl, ?hyb13⟩) hS0 ?rb13
          case hyb13 => (intro w' hSw; (try obtain ⟨q0, q1, q2⟩ := hSw); simp only [List.getElem_toArray, List.getElem_cons_zero, List.getElem_cons_succ]; go_simp; try (with_reducible rfl))
          simp only [List.getElem_toArray, List.getElem_cons_zero, List.getElem_cons_succ, Act.put, List.setIfInBounds_toArray, List.set_cons_zero, List.set_cons_succ]
          refine wpAnyT_take (i := 14) (v := ?vb14) rfl (by kernel_rfl) (by kernel_rfl) (by kernel_rfl) (by kernel_rfl) (fun _ _ _ h => h) (Or.inl ⟨by rfl, ?hyb14⟩) hS0 ?rb14
          case hyb14 => (intro w' hSw; (try obtain ⟨q0, q1, q2⟩ := hSw); simp only [List.getElem_toArray, List.getElem_cons_zero, List.getElem_cons_succ]; go_simp; try (with_reducible rfl))
          simp only [List.getElem_toArray, List.getElem_cons_zero, List.getElem_cons_succ, Act.put, List.setIfInBounds_toArray, List.set_cons_zero, List.set_cons_succ]
          refine wpAnyT_take (i := 15) (v := ?vb15) rfl (by kernel_rfl) (by kernel_rfl) (by kernel_rfl) (by kernel_rfl) (fun _ _ _ h => h) (Or.inl ⟨by rfl, ?hyb15⟩) hS0 ?rb15
          case hyb15 => (intro w' hSw; (try obtain ⟨q0, q1, q2⟩ := hSw); simp only [List.getElem_toArray, List.getElem_cons_zero, List.getElem_cons_succ]; go_simp; try (with_reducible rfl))
          simp only [List.getElem_toArray, List.getElem_cons_zero, List.getElem_cons_succ, Act.put, List.setIfInBounds_toArray, List.set_cons_zero, List.set_cons_succ]
          refine wpAnyT_take (i := 16) (v := ?vb16) rfl (by kernel_rfl) (by kernel_rfl) (by kernel_rfl) (by kernel_rfl) (fun _ _ _ h => h) (Or.inl ⟨by rfl, ?hyb16⟩) hS0 ?rb16
          case hyb16 => (intro w' hSw; (try obtain ⟨q0, q1, q2⟩ := hSw); simp only [List.getElem_toArray, List.getElem_cons_zero, List.getElem_cons_succ]; go_simp; try (with_reducible rfl))
          simp only [List.getElem_toArray, List.getElem_cons_zero, List.getElem_cons_succ, Act.put, List.setIfInBounds_toArray, List.set_cons_zero, List.set_cons_succ]
          refine wpAnyT_done (by kernel_rfl) ?_ _
          clear hS0
          have HFin : Hid (∀ pl w5 v5, (if hs = true then pv else -1) = pl → Grew (w9.alloc (.cells #[.int .i64 pl] 3)) w5 (.slice qa j qc) v5 → w5.ownsRow w.heap.size 3 1 v5 (j + 1) (ints (pairsP A k B j) ++ [.int .i64 pl]) → w5.ownsRow w.heap.size 3 1 v5 (j + 1) (ints (pairsP A k B (j + 1))) ∧ PairsEnd A k B w (j + 1) w5 ∧ ∀ b, v5.ownBlock = some b → b ≠ w.heap.size ∧ b ≠ w.heap.size + 1) := hide fun pl w5 v5 hpl hg5 ho5 => by
            obtain ⟨e1, e2, e3⟩ := HE9.out
            have hnq : ∀ b, b < w9.heap.size → Value.ownBlock (.slice qa j qc) ≠ some b → w5.heap[b]? = w9.heap[b]? := fun b hb hn => (hg5.by.block b (by simp; omega) (fun e => hn e.symm)).trans (Below.heap_alloc _ _ _ hb)
            refine ⟨?_, ⟨e1.heap (hnq _ e1.lt (fun e => (hqn.out _ e).1 rfl)), e2.heap (hnq _ e2.lt (fun e => (hqn.out _ e).2 rfl)), ?_⟩, fun b e => ?_⟩
            · rw [pairsP_succ, ints_app, ← HPa.out, hpl]; exact ho5
            · exact (e3.alloc e3.size _).grown hg5.by (by simp; omega) (fun b e => (HR9.out.lt b e).1)
            · rcases hg5 with ⟨e', _⟩ | ⟨e', _⟩
              · rw [e] at e'; exact hqn.out b e'.symm
              · rw [e] at e'
                have e' := Option.some.inj e'
                have := e2.lt
                simp at e'
                omega
          have hpl : (ints (pairsP A k B j)).length = j := by rw [ints_length, pairsP_length]
          cases hs with
          | true =>
            go_wp2_with ((at_builtin; refine wpList_app _ rfl (.tmp 63) (.tmp 65) 44 rfl w.heap.size 3 i0 (.int .i64 0) 1 8 Try.underlying44 hi hz0 hz1 hz2 rfl (.slice qa j qc) _ _ rfl (HR9.out.alloc _) (some ⟨w9.heap.size, 0, none⟩) 1 1 [.int .i64 pv] rfl (by simp) rfl (cells_new _ _ _) (by simp [Value.oneCell']) (by omega) (by omega) (by simp; omega) ?_; intro v5 w5 ho5 hg5 _))
            obtain ⟨f1, f2, f3⟩ := HFin.out pv w5 v5 rfl hg5.out ho5.out
            have F1 := hide f1
            have F2 := hide f2
            have F3 := hide f3
            clear f1 f2 f3 ho5 hg5 HFin HR9 HE9
            go_wp2
            go_roundw
            case rel => exact ⟨j + 1, _, by omega, by go_num, rfl, F1, F2, F3⟩
            case measure => simp [intOf]; omega
          | false =>
            go_wp2_with ((at_builtin; refine wpList_app _ rfl (.tmp 63) (.tmp 65) 44 rfl w.heap.size 3 i0 (.int .i64 0) 1 8 Try.underlying44 hi hz0 hz1 hz2 rfl (.slice qa j qc) _ _ rfl (HR9.out.alloc _) (some ⟨w9.heap.size, 0, none⟩) 1 1 [.int .i64 (-1)] rfl (by simp) rfl (cells_new _ _ _) (by simp [Value.oneCell']) (by omega) (by omega) (by simp; omega) ?_; intro v5 w5 ho5 hg5 _))
            obtain ⟨f1, f2, f3⟩ := HFin.out (-1) w5 v5 rfl hg5.out ho5.out
            have F1 := hide f1
            have F2 := hide f2
            have F3 := hide f3
            clear f1 f2 f3 ho5 hg5 HFin HR9 HE9
            go_wp2
            go_roundw
            case rel => exact ⟨j + 1, _, by omega, by go_num, rfl, F1, F2, F3⟩
            case measure => simp [intOf]; omega
        · have hjm : j = m := by omega
          subst hjm
          have hji : ¬ (j : Int) < (j : Int) := by omega
          go_wp2_with fail
          go_ret
          exact ⟨_, rfl, hrow.out, hr.out.2.2⟩
end Go.Proofs.Ytobgcaemnpkbmaa
