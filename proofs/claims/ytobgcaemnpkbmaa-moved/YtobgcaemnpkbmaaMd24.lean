/- Fn -/
import Derived.Test.YtobgcaemnpkbmaaMd23
namespace Go.Proofs.Ytobgcaemnpkbmaa
open Go.RowKit
structure Tells (WB : Nat) (pv pv' : Value) (w w' : World) : Prop where
  touch : Touch (fun b => b = WB ∨ some b = pv.ownBlock) w w'
  row : ∀ b, pv'.ownBlock = some b → pv.ownBlock = some b ∨ w.heap.size ≤ b
def Free (WB : Nat) (pv : Value) (w : World) (b : Nat) : Prop := b < w.heap.size ∧ b ≠ WB ∧ pv.ownBlock ≠ some b
theorem Tells.refl (WB : Nat) (pv : Value) (w : World) : Tells WB pv pv w w := ⟨⟨rfl, rfl, rfl, Nat.le_refl _, fun _ _ _ => rfl⟩, fun _ h => .inl h⟩
theorem Tells.of_below {WB : Nat} {pv : Value} {w w' : World} (h : Below w.heap.size w w') : Tells WB pv pv w w' := ⟨.of_below h, fun _ h => .inl h⟩
theorem Tells.trans {WB : Nat} {pv pv1 pv2 : Value} {w w1 w2 : World} (h : Tells WB pv pv1 w w1) (k : Tells WB pv1 pv2 w1 w2) : Tells WB pv pv2 w w2 := by
  refine ⟨⟨k.touch.os.trans h.touch.os, k.touch.tape.trans h.touch.tape, k.touch.output.trans h.touch.output, Nat.le_trans h.touch.size k.touch.size, fun b hb hn => ?_⟩, fun b e => ?_⟩
  · refine (k.touch.block b (Nat.lt_of_lt_of_le hb h.touch.size) ?_).trans (h.touch.block b hb hn)
    rintro (e | e)
    · exact hn (.inl e)
    · rcases h.row b e.symm with e2 | e2
      · exact hn (.inr e2.symm)
      · omega
  · rcases k.row b e with e2 | e2
    · exact h.row b e2
    · exact .inr (Nat.le_trans h.touch.size e2)
theorem Free.tells {WB : Nat} {pv pv' : Value} {w w' : World} {b : Nat} (h : Free WB pv w b) (k : Tells WB pv pv' w w') : Free WB pv' w' b := by
  refine ⟨Nat.lt_of_lt_of_le h.1 k.touch.size, h.2.1, fun e => ?_⟩
  rcases k.row b e with e2 | e2
  · exact h.2.2 e2
  · have := h.1; omega
theorem Free.block {WB : Nat} {pv pv' : Value} {w w' : World} {b : Nat} (h : Free WB pv w b) (k : Tells WB pv pv' w w') : w'.heap[b]? = w.heap[b]? :=
  k.touch.block b h.1 (by rintro (e | e); exact h.2.1 e; exact h.2.2 e.symm)
theorem Free.cell {WB : Nat} {pv pv' : Value} {w w' : World} {b o : Nat} (h : Free WB pv w b) (k : Tells WB pv pv' w w') : w'.cell? ⟨b, o, none⟩ = w.cell? ⟨b, o, none⟩ := World.cell?_of_block (h.block k)
structure AttrsV (WB : Nat) (pv : Value) (w : World) (ao : Option Addr) (n : Nat) (nm vl : Nat → ByteArray) : Prop where
  at_ : AttrsAt w ao n nm vl
  free : 0 < n → ∀ b o, ao = some ⟨b, o, none⟩ → Free WB pv w b
theorem AttrsV.tells {WB : Nat} {pv pv' : Value} {w w' : World} {ao : Option Addr} {n : Nat} {nm vl : Nat → ByteArray} (h : AttrsV WB pv w ao n nm vl) (k : Tells WB pv pv' w w') : AttrsV WB pv' w' ao n nm vl := by
  refine ⟨fun j hj => ?_, fun h0 b o e => (h.free h0 b o e).tells k⟩
  obtain ⟨b, o, e, hb, h1, h2, h3, h4⟩ := h.at_ j hj
  have hf := h.free (by omega) b o e
  exact ⟨b, o, e, (hf.tells k).1, (hf.cell k).trans h1, (hf.cell k).trans h2, h3, h4⟩
theorem WayAt.below {B : Nat} {w w' : World} {WB : Nat} {pv : Value} {P : List Pat} {last : Int} (h : WayAt B w WB pv P last) (hb : Below w.heap.size w w') : WayAt B w' WB pv P last :=
  ⟨(hb.cell (p := ⟨WB, 0, none⟩) h.lt).trans h.c0, (hb.frozen (p := ⟨WB, 0, none⟩) h.lt).trans h.f0, (hb.cell (p := ⟨WB, 1, none⟩) h.lt).trans h.c1, (hb.frozen (p := ⟨WB, 1, none⟩) h.lt).trans h.f1, ownsRow_below h.row hb, h.apart, Nat.lt_of_lt_of_le h.lt hb.size⟩
theorem tell_new (B WB : Nat) (pv : Value) (P : List Pat) (last : Int) (w : World) (h : WayAt B w WB pv P last) (hB : B ≤ w.heap.size) (hP : P.length ≤ 1000000) (kd id pa bf ky : Int) (tg nm tx : ByteArray) (hx1 : tg.size ≤ 1000000) (hx2 : nm.size ≤ 1000000) (hx3 : tx.size ≤ 1000000) :
    Calls Try.prog 57 #[.pointer (some ⟨WB, 0, none⟩), .slice (some ⟨w.heap.size, 0, none⟩) 1 1] (w.alloc (.cells #[.int .i64 kd, .int .i64 id, .int .i64 pa, .int .i64 bf, .int .i64 ky, .string tg, .string nm, .string tx] 43)).drew fun e w' => e = .returned (.tuple #[]) ∧ ∃ pv', WayAt B w' WB pv' (P ++ [⟨kd, id, pa, bf, ky, tg, nm, tx⟩]) last ∧ Tells WB pv pv' w w' := by
  have hc := cells_new w #[.int .i64 kd, .int .i64 id, .int .i64 pa, .int .i64 bf, .int .i64 ky, .string tg, .string nm, .string tx] 43 _ rfl
  have hb : Below w.heap.size w (w.alloc (.cells #[.int .i64 kd, .int .i64 id, .int .i64 pa, .int .i64 bf, .int .i64 ky, .string tg, .string nm, .string tx] 43)).drew := ((Below.refl _ _).alloc (Nat.le_refl _) _).drew
  have hsz : w.heap.size < (w.alloc (.cells #[.int .i64 kd, .int .i64 id, .int .i64 pa, .int .i64 bf, .int .i64 ky, .string tg, .string nm, .string tx] 43)).drew.heap.size := by
    show _ < (w.heap.push _).size
    simp
  refine (tell_one B WB pv P last _ (h.below hb) (by omega) hP ⟨kd, id, pa, bf, ky, tg, nm, tx⟩ (by show tg.size ≤ _; omega) (by show nm.size ≤ _; omega) (by show tx.size ≤ _; omega) w.heap.size 0 1 hsz ?_).mono ?_
  · intro r hr
    have : ∀ r, r < 8 → (#[.int .i64 kd, .int .i64 id, .int .i64 pa, .int .i64 bf, .int .i64 ky, .string tg, .string nm, .string tx] : Array Value).toList[r]? = some (patCell ⟨kd, id, pa, bf, ky, tg, nm, tx⟩ r) := by
      intro r hr
      match r, hr with
      | 0, _ => rfl
      | 1, _ => rfl
      | 2, _ => rfl
      | 3, _ => rfl
      | 4, _ => rfl
      | 5, _ => rfl
      | 6, _ => rfl
      | 7, _ => rfl
    have := hc r _ (this r hr)
    rw [addr_add'] at this
    exact this
  · rintro e w' ⟨rfl, pv', h1, h2, h3⟩
    exact ⟨rfl, pv', h1, (Tells.of_below hb).trans ⟨h3, h2⟩⟩
def unsP (id : Int) (nm nm2 : Nat → ByteArray) (n2 : Nat) : Nat → List Pat
  | 0 => []
  | k + 1 => unsP id nm nm2 n2 k ++ bif nameIn nm2 (nm k) n2 then [] else [⟨5, id, 0, 0, 0, ⟨#[]⟩, nm k, ⟨#[]⟩⟩]
def setsP (id : Int) (nm vl : Nat → ByteArray) (n : Nat) (nm2 vl2 : Nat → ByteArray) : Nat → List Pat
  | 0 => []
  | k + 1 => setsP id nm vl n nm2 vl2 k ++ bif attrIn nm vl (nm2 k) (vl2 k) n then [] else [⟨4, id, 0, 0, 0, ⟨#[]⟩, nm2 k, vl2 k⟩]
theorem unsP_yes {id : Int} {nm nm2 : Nat → ByteArray} {n2 k : Nat} (h : nameIn nm2 (nm k) n2 = true) : unsP id nm nm2 n2 (k + 1) = unsP id nm nm2 n2 k := by simp [unsP, h]
theorem unsP_no {id : Int} {nm nm2 : Nat → ByteArray} {n2 k : Nat} (h : nameIn nm2 (nm k) n2 = false) : unsP id nm nm2 n2 (k + 1) = unsP id nm nm2 n2 k ++ [⟨5, id, 0, 0, 0, ⟨#[]⟩, nm k, ⟨#[]⟩⟩] := by simp [unsP, h]
theorem setsP_yes {id : Int} {nm vl nm2 vl2 : Nat → ByteArray} {n k : Nat} (h : attrIn nm vl (nm2 k) (vl2 k) n = true) : setsP id nm vl n nm2 vl2 (k + 1) = setsP id nm vl n nm2 vl2 k := by simp [setsP, h]
theorem setsP_no {id : Int} {nm vl nm2 vl2 : Nat → ByteArray} {n k : Nat} (h : attrIn nm vl (nm2 k) (vl2 k) n = false) : setsP id nm vl n nm2 vl2 (k + 1) = setsP id nm vl n nm2 vl2 k ++ [⟨4, id, 0, 0, 0, ⟨#[]⟩, nm2 k, vl2 k⟩] := by simp [setsP, h]
theorem unsP_length (id : Int) (nm nm2 : Nat → ByteArray) (n2 : Nat) : ∀ k, (unsP id nm nm2 n2 k).length ≤ k
  | 0 => Nat.le_refl _
  | k + 1 => by
    have := unsP_length id nm nm2 n2 k
    cases h : nameIn nm2 (nm k) n2 with
    | true => rw [unsP_yes h]; omega
    | false => rw [unsP_no h, List.length_append]; show _ + 1 ≤ _; omega
theorem setsP_length (id : Int) (nm vl : Nat → ByteArray) (n : Nat) (nm2 vl2 : Nat → ByteArray) : ∀ k, (setsP id nm vl n nm2 vl2 k).length ≤ k
  | 0 => Nat.le_refl _
  | k + 1 => by
    have := setsP_length id nm vl n nm2 vl2 k
    cases h : attrIn nm vl (nm2 k) (vl2 k) n with
    | true => rw [setsP_yes h]; omega
    | false => rw [setsP_no h, List.length_append]; show _ + 1 ≤ _; omega
set_option maxHeartbeats 2000000 in
set_option maxRecDepth 100000 in
theorem bringAttrs_any (B WB : Nat) (pv : Value) (P : List Pat) (last : Int) (w : World) (h : WayAt B w WB pv P last) (hB : B ≤ w.heap.size) (hP : P.length ≤ 900000)
    (N : Nat) (id : Int) (na : Option Addr) (nn nc : Nat) (nm vl : Nat → ByteArray) (hN : Free WB pv w N) (n0 : w.cell? ⟨N, 0, none⟩ = some (.int .i64 id)) (n4 : w.cell? ⟨N, 4, none⟩ = some (.slice na nn nc)) (hn : AttrsV WB pv w na nn nm vl) (hnn : nn ≤ 5) (hs1 : ∀ j, j < nn → (nm j).size ≤ 1000000)
    (ao : Option Addr) (an ac : Nat) (nm2 vl2 : Nat → ByteArray) (ha : AttrsV WB pv w ao an nm2 vl2) (han : an ≤ 5) (hs2 : ∀ j, j < an → (nm2 j).size ≤ 1000000 ∧ (vl2 j).size ≤ 1000000) :
    Calls Try.prog 58 #[.pointer (some ⟨WB, 0, none⟩), .pointer (some ⟨N, 0, none⟩), .slice ao an ac] w fun e w' => e = .returned (.tuple #[]) ∧ ∃ pv', WayAt B w' WB pv' (P ++ unsP id nm nm2 an nn ++ setsP id nm vl nn nm2 vl2 an) last ∧ Tells WB pv pv' w w' := by
  have H := hide h
  have HN := hide hn
  have HA := hide ha
  have HF := hide hN
  have HS1 := hide hs1
  have HS2 := hide hs2
  clear h hn ha hN hs1 hs2
  go_enter Try.func58, Try.ntmps58
  go_wp2_with fail
  go_loopw [7, 15] (fun _ i wr => ∃ k : Nat, i = .int .i64 (k : Int) ∧ k ≤ nn ∧ Hid (∃ pv', WayAt B wr WB pv' (P ++ unsP id nm nm2 an k) last ∧ Tells WB pv pv' w wr)) (fun _ i _ => nn - (intOf i).toNat)
  case atStart => exact ⟨0, rfl, Nat.zero_le _, hide ⟨pv, by simpa [unsP] using H.out, .refl ..⟩⟩
  case round =>
    obtain ⟨k, rfl, hk, hE⟩ := hrel
    by_cases hlt : k < nn
    · obtain ⟨pv1, hW1, hT1⟩ := hE.out
      obtain ⟨b, o, rfl, hb, a0, a1, z0, z1⟩ := (HN.out.tells hT1).at_ k hlt
      clear hE
      have HW1 := hide hW1
      have HT1 := hide hT1
      clear hW1 hT1
      go_wp2_with fail
      generalize hx0 : wr.alloc (.cells #[.string (nm k), .string (vl k)] 58) = x0
      have hb0 : Below wr.heap.size wr x0 := by rw [← hx0]; exact (Below.refl _ _).alloc (Nat.le_refl _) _
      have k0 : x0.cell? ⟨wr.heap.size, 0, none⟩ = some (.string (nm k)) := by
        have := cells_new wr #[.string (nm k), .string (vl k)] 58 _ rfl 0 _ rfl
        rw [← hx0]; exact this
      have s0 : wr.heap.size < x0.heap.size := World.block_lt_of_cell? _ _ k0
      have hT0 : Tells WB pv pv1 w x0 := HT1.out.trans (.of_below hb0)
      have hC := containsFuncA_any ao an ac nm2 vl2 wr.heap.size (nm k) x0 (by omega) (HA.out.tells hT0).at_ k0 s0
      clear hx0 hT0
      cases hq : nameIn nm2 (nm k) an with
      | true =>
        rw [hq] at hC
        refine hC.mono ?_
        rintro e x1 ⟨rfl, hb1⟩
        have hb01 := hide (hb0.trans (hb1.mono (Nat.le_of_lt s0)))
        clear hb0 hb1 hC
        go_wp2_with fail
        refine ⟨⟨k + 1, rfl, hlt, hide ⟨pv1, ?_, HT1.out.trans (.of_below hb01.out)⟩⟩, ?_⟩
        · rw [unsP_yes hq]; exact HW1.out.below hb01.out
        · simp only [intOf]; omega
      | false =>
        rw [hq] at hC
        refine hC.mono ?_
        rintro e x1 ⟨rfl, hb1⟩
        have hb01 := hide (hb0.trans (hb1.mono (Nat.le_of_lt s0)))
        have m1 : x1.cell? ⟨wr.heap.size, 0, none⟩ = some (.string (nm k)) := (hb1.cell (p := ⟨wr.heap.size, 0, none⟩) s0).trans k0
        have m0 : x1.cell? ⟨N, 0, none⟩ = some (.int .i64 id) := (HF.out.cell (HT1.out.trans (.of_below hb01.out))).trans n0
        have s1 : wr.heap.size < x1.heap.size := World.block_lt_of_cell? _ _ m1
        have HB1 := hide (show B ≤ x1.heap.size from Nat.le_trans (Nat.le_trans hB HT1.out.touch.size) (Nat.le_of_lt s1))
        clear hb0 hb1 hC k0
        go_wp2_with fail
        have hS0 : (fun w' : World => w'.cell? ⟨N, 0, none⟩ = some (.int .i64 id) ∧ w'.cell? ⟨wr.heap.size, 0, none⟩ = some (.string (nm k))) x1.drew := ⟨m0, m1⟩
        refine wp_region_last (S := (fun w' : World => w'.cell? ⟨N, 0, none⟩ = some (.int .i64 id) ∧ w'.cell? ⟨wr.heap.size, 0, none⟩ = some (.string (nm k)))) (by kernel_rfl) ?_
        refine wpAnyT_take (i := 0) (v := ?va0) rfl (by kernel_rfl) (by kernel_rfl) (by kernel_rfl) (by kernel_rfl) (fun _ _ _ h => h) (Or.inl ⟨by rfl, ?hya0⟩) hS0 ?ra0
        case hya0 => (intro w' hSw; (try obtain ⟨q0, q1⟩ := hSw); simp only [List.getElem_toArray, List.getElem_cons_zero]; go_simp; try (with_reducible rfl))
        simp only [List.getElem_toArray, List.getElem_cons_zero, Act.put, List.setIfInBounds_toArray, List.set_cons_zero, List.set_cons_succ]
        refine wpAnyT_take (i := 1) (v := ?va1) rfl (by kernel_rfl) (by kernel_rfl) (by kernel_rfl) (by kernel_rfl) (fun _ _ _ h => h) (Or.inl ⟨by rfl, ?hya1⟩) hS0 ?ra1
        case hya1 => (intro w' hSw; (try obtain ⟨q0, q1⟩ := hSw); simp only [List.getElem_toArray, List.getElem_cons_zero, List.getElem_cons_succ]; go_simp; try (with_reducible rfl))
        simp only [List.getElem_toArray, List.getElem_cons_zero, List.getElem_cons_succ, Act.put, List.setIfInBounds_toArray, List.set_cons_zero, List.set_cons_succ]
        refine wpAnyT_take (i := 2) (v := ?va2) rfl (by kernel_rfl) (by kernel_rfl) (by kernel_rfl) (by kernel_rfl) (fun _ _ _ h => h) (Or.inl ⟨by rfl, ?hya2⟩) hS0 ?ra2
        case hya2 => (intro w' hSw; (try obtain ⟨q0, q1⟩ := hSw); simp only [List.getElem_toArray, List.getElem_cons_zero, List.getElem_cons_succ]; go_simp; try (with_reducible rfl))
        simp only [List.getElem_toArray, List.getElem_cons_zero, List.getElem_cons_succ, Act.put, List.setIfInBounds_toArray, List.set_cons_zero, List.set_cons_succ]
        refine wpAnyT_take (i := 3) (v := ?va3) rfl (by kernel_rfl) (by kernel_rfl) (by kernel_rfl) (by kernel_rfl) (fun _ _ _ h => h) (Or.inl ⟨by rfl, ?hya3⟩) hS0 ?ra3
        case hya3 => (intro w' hSw; (try obtain ⟨q0, q1⟩ := hSw); simp only [List.getElem_toArray, List.getElem_cons_zero, List.getElem_cons_succ]; go_simp; try (with_reducible rfl))
        simp only [List.getElem_toArray, List.getElem_cons_zero, List.getElem_cons_succ, Act.put, List.setIfInBounds_toArray, List.set_cons_zero, List.set_cons_succ]
        refine wpAnyT_take (i := 4) (v := ?va4) rfl (by kernel_rfl) (by kernel_rfl) (by kernel_rfl) (by kernel_rfl) (fun _ _ _ h => h) (Or.inl ⟨by rfl, ?hya4⟩) hS0 ?ra4
        case hya4 => (intro w' hSw; (try obtain ⟨q0, q1⟩ := hSw); simp only [List.getElem_toArray, List.getElem_cons_zero, List.getElem_cons_succ]; go_simp; try (with_reducible rfl))
        simp only [List.getElem_toArray, List.getElem_cons_zero, List.getElem_cons_succ, Act.put, List.setIfInBounds_toArray, List.set_cons_zero, List.set_cons_succ]
        refine wpAnyT_take (i := 5) (v := ?va5) rfl (by kernel_rfl) (by kernel_rfl) (by kernel_rfl) (by kernel_rfl) (fun _ _ _ h => h) (Or.inl ⟨by rfl, ?hya5⟩) hS0 ?ra5
        case hya5 => (intro w' hSw; (try obtain ⟨q0, q1⟩ := hSw); simp only [List.getElem_toArray, List.getElem_cons_zero, List.getElem_cons_succ]; go_simp; try (with_reducible rfl))
        simp only [List.getElem_toArray, List.getElem_cons_zero, List.getElem_cons_succ, Act.put, List.setIfInBounds_toArray, List.set_cons_zero, List.set_cons_succ]
        refine wpAnyT_take (i := 6) (v := ?va6) rfl (by kernel_rfl) (by kernel_rfl) (by kernel_rfl) (by kernel_rfl) (fun _ _ _ h => h) (Or.inl ⟨by rfl, ?hya6⟩) hS0 ?ra6
        case hya6 => (intro w' hSw; (try obtain ⟨q0, q1⟩ := hSw); simp only [List.getElem_toArray, List.getElem_cons_zero, List.getElem_cons_succ]; go_simp; try (with_reducible rfl))
        simp only [List.getElem_toArray, List.getElem_cons_zero, List.getElem_cons_succ, Act.put, List.setIfInBounds_toArray, List.set_cons_zero, List.set_cons_succ]
        refine wpAnyT_take (i := 7) (v := ?va7) rfl (by kernel_rfl) (by kernel_rfl) (by kernel_rfl) (by kernel_rfl) (fun _ _ _ h => h) (Or.inl ⟨by rfl, ?hya7⟩) hS0 ?ra7
        case hya7 => (intro w' hSw; (try obtain ⟨q0, q1⟩ := hSw); simp only [List.getElem_toArray, List.getElem_cons_zero, List.getElem_cons_succ]; go_simp; try (with_reducible rfl))
        simp only [List.getElem_toArray, List.getElem_cons_zero, List.getElem_cons_succ, Act.put, List.setIfInBounds_toArray, List.set_cons_zero, List.set_cons_succ]
        refine wpAnyT_one (i := 8) rfl (by kernel_rfl) (by rfl) ?_
        simp only [List.getElem_toArray, List.getElem_cons_zero, List.getElem_cons_succ]
        go_simp
        have hb1 : Below wr.heap.size wr x1 := hb01.out
        have l1 := HB1.out
        refine ⟨.inr ?_, ?_⟩
        · exact ((((Below.refl x1.heap.size x1).alloc (Nat.le_refl _) _).cell (p := ⟨N, 0, none⟩) (World.block_lt_of_cell? _ _ m0))).trans m0
        clear hS0 hb1
        refine wpAnyT_one (i := 9) rfl (by kernel_rfl) (by rfl) ?_
        simp only [List.getElem_toArray, List.getElem_cons_zero, List.getElem_cons_succ]
        go_simp
        refine (tell_new B WB pv1 (P ++ unsP id nm nm2 an k) last x1 (HW1.out.below hb01.out) (by have := l1; omega) (by have := unsP_length id nm nm2 an k; rw [List.length_append]; omega) 5 id 0 0 0 ⟨#[]⟩ (nm k) ⟨#[]⟩ (by decide) (HS1.out k hlt) (by decide)).mono ?_
        rintro e x3 ⟨rfl, pv3, hW3, hT3⟩
        have fN : Free WB pv1 x1 N := HF.out.tells (HT1.out.trans (.of_below hb01.out))
        have fB : Free WB pv1 x1 wr.heap.size := ⟨s1, Nat.ne_of_gt HW1.out.lt, fun e => Nat.lt_irrefl _ (HW1.out.row.lt _ e).2⟩
        refine ⟨.inr ⟨(fN.cell hT3).trans m0, (fB.cell hT3).trans m1⟩, ?_⟩
        have HW3 := hide hW3
        have HT3 := hide (HT1.out.trans ((Tells.of_below hb01.out).trans hT3))
        clear hW3 hT3
        refine wpAnyT_done (by kernel_rfl) ?_ _
        go_wp2_with fail
        refine ⟨⟨k + 1, rfl, hlt, hide ⟨pv3, ?_, HT3.out⟩⟩, ?_⟩
        · rw [unsP_no hq, ← List.append_assoc]; exact HW3.out
        · simp only [intOf]; omega
    · have : nn = k := by omega
      subst this
      have HE := hE
      clear hE hk hlt
      go_wp2_with fail
      go_loopw [9, 36] (fun _ i ws => ∃ k : Nat, i = .int .i64 (k : Int) ∧ k ≤ an ∧ Hid (∃ pv', WayAt B ws WB pv' (P ++ unsP id nm nm2 an nn ++ setsP id nm vl nn nm2 vl2 k) last ∧ Tells WB pv pv' w ws)) (fun _ i _ => an - (intOf i).toNat)
      case atStart =>
        obtain ⟨pv1, hW1, hT1⟩ := HE.out
        exact ⟨0, rfl, Nat.zero_le _, hide ⟨pv1, by simpa [setsP] using hW1, hT1⟩⟩
      case round =>
        clear HE
        obtain ⟨k, rfl, hk, hE⟩ := hrel
        by_cases hlt : k < an
        · obtain ⟨pv1, hW1, hT1⟩ := hE.out
          obtain ⟨b, o, rfl, hb, a0, a1, z0, z1⟩ := (HA.out.tells hT1).at_ k hlt
          clear hE
          have HW1 := hide hW1
          have HT1 := hide hT1
          have j4 : wr.cell? ⟨N, 4, none⟩ = some (.slice na nn nc) := (HF.out.cell hT1).trans n4
          clear hW1 hT1
          go_wp2_with fail
          generalize hx0 : wr.alloc (.cells #[.string (nm2 k), .string (vl2 k)] 58) = x0
          have hb0 : Below wr.heap.size wr x0 := by rw [← hx0]; exact (Below.refl _ _).alloc (Nat.le_refl _) _
          have k0 : x0.cell? ⟨wr.heap.size, 0, none⟩ = some (.string (nm2 k)) := by
            have := cells_new wr #[.string (nm2 k), .string (vl2 k)] 58 _ rfl 0 _ rfl
            rw [← hx0]; exact this
          have k1 : x0.cell? ⟨wr.heap.size, 1, none⟩ = some (.string (vl2 k)) := by
            have := cells_new wr #[.string (nm2 k), .string (vl2 k)] 58 _ rfl 1 _ rfl
            rw [addr_add'] at this
            rw [← hx0]; exact this
          have s0 : wr.heap.size < x0.heap.size := World.block_lt_of_cell? _ _ k0
          have l4 : x0.cell? ⟨N, 4, none⟩ = some (.slice na nn nc) := (hb0.cell (p := ⟨N, 4, none⟩) (World.block_lt_of_cell? _ _ j4)).trans j4
          have hT0 : Tells WB pv pv1 w x0.drew := HT1.out.trans (.of_below hb0.drew)
          have hC := containsA_any na nn nc nm vl (nm2 k) (vl2 k) x0.drew (by omega) (HN.out.tells hT0).at_
          clear hx0 hT0 j4
          have hS0 : (fun w' : World => w'.cell? ⟨N, 4, none⟩ = some (.slice na nn nc) ∧ w'.cell? ⟨wr.heap.size, 0, none⟩ = some (.string (nm2 k)) ∧ w'.cell? ⟨wr.heap.size, 1, none⟩ = some (.string (vl2 k))) x0.drew := ⟨l4, k0, k1⟩
          refine wp_region_last (S := (fun w' : World => w'.cell? ⟨N, 4, none⟩ = some (.slice na nn nc) ∧ w'.cell? ⟨wr.heap.size, 0, none⟩ = some (.string (nm2 k)) ∧ w'.cell? ⟨wr.heap.size, 1, none⟩ = some (.string (vl2 k)))) (by kernel_rfl) ?_
          refine wpAnyT_take (i := 0) (v := ?vb0) rfl (by kernel_rfl) (by kernel_rfl) (by kernel_rfl) (by kernel_rfl) (fun _ _ _ h => h) (Or.inl ⟨by rfl, ?hyb0⟩) hS0 ?rb0
          case hyb0 => (intro w' hSw; (try obtain ⟨q0, q1, q2⟩ := hSw); simp only [List.getElem_toArray, List.getElem_cons_zero]; go_simp; try (with_reducible rfl))
          simp only [List.getElem_toArray, List.getElem_cons_zero, Act.put, List.setIfInBounds_toArray, List.set_cons_zero, List.set_cons_succ]
          refine wpAnyT_take (i := 1) (v := ?vb1) rfl (by kernel_rfl) (by kernel_rfl) (by kernel_rfl) (by kernel_rfl) (fun _ _ _ h => h) (Or.inl ⟨by rfl, ?hyb1⟩) hS0 ?rb1
          case hyb1 => (intro w' hSw; (try obtain ⟨q0, q1, q2⟩ := hSw); simp only [List.getElem_toArray, List.getElem_cons_zero, List.getElem_cons_succ]; go_simp; try (with_reducible rfl))
          simp only [List.getElem_toArray, List.getElem_cons_zero, List.getElem_cons_succ, Act.put, List.setIfInBounds_toArray, List.set_cons_zero, List.set_cons_succ]
          refine wpAnyT_take (i := 2) (v := ?vb2) rfl (by kernel_rfl) (by kernel_rfl) (by kernel_rfl) (by kernel_rfl) (fun _ _ _ h => h) (Or.inl ⟨by rfl, ?hyb2⟩) hS0 ?rb2
          case hyb2 => (intro w' hSw; (try obtain ⟨q0, q1, q2⟩ := hSw); simp only [List.getElem_toArray, List.getElem_cons_zero, List.getElem_cons_succ]; go_simp; try (with_reducible rfl))
          simp only [List.getElem_toArray, List.getElem_cons_zero, List.getElem_cons_succ, Act.put, List.setIfInBounds_toArray, List.set_cons_zero, List.set_cons_succ]
          refine wpAnyT_take (i := 3) (v := ?vb3) rfl (by kernel_rfl) (by kernel_rfl) (by kernel_rfl) (by kernel_rfl) (fun _ _ _ h => h) (Or.inl ⟨by rfl, ?hyb3⟩) hS0 ?rb3
          case hyb3 => (intro w' hSw; (try obtain ⟨q0, q1, q2⟩ := hSw); simp only [List.getElem_toArray, List.getElem_cons_zero, List.getElem_cons_succ]; go_simp; try (with_reducible rfl))
          simp only [List.getElem_toArray, List.getElem_cons_zero, List.getElem_cons_succ, Act.put, List.setIfInBounds_toArray, List.set_cons_zero, List.set_cons_succ]
          refine wpAnyT_take (i := 4) (v := ?vb4) rfl (by kernel_rfl) (by kernel_rfl) (by kernel_rfl) (by kernel_rfl) (fun _ _ _ h => h) (Or.inl ⟨by rfl, ?hyb4⟩) hS0 ?rb4
          case hyb4 => (intro w' hSw; (try obtain ⟨q0, q1, q2⟩ := hSw); simp only [List.getElem_toArray, List.getElem_cons_zero, List.getElem_cons_succ]; go_simp; try (with_reducible rfl))
          simp only [List.getElem_toArray, List.getElem_cons_zero, List.getElem_cons_succ, Act.put, List.setIfInBounds_toArray, List.set_cons_zero, List.set_cons_succ]
          refine wpAnyT_one (i := 5) rfl (by kernel_rfl) (by rfl) ?_
          simp only [List.getElem_toArray, List.getElem_cons_zero, List.getElem_cons_succ]
          go_simp
          cases hq : attrIn nm vl (nm2 k) (vl2 k) nn with
          | true =>
            rw [hq] at hC
            refine hC.mono ?_
            rintro e x1 ⟨rfl, hb1⟩
            have hb1 : Below x0.heap.size x0 x1 := (Below.refl x0.heap.size x0).drew.trans hb1
            have m0 : x1.cell? ⟨wr.heap.size, 0, none⟩ = some (.string (nm2 k)) := (hb1.cell (p := ⟨wr.heap.size, 0, none⟩) s0).trans k0
            have m1 : x1.cell? ⟨wr.heap.size, 1, none⟩ = some (.string (vl2 k)) := (hb1.cell (p := ⟨wr.heap.size, 1, none⟩) s0).trans k1
            have m4 : x1.cell? ⟨N, 4, none⟩ = some (.slice na nn nc) := (hb1.cell (p := ⟨N, 4, none⟩) (World.block_lt_of_cell? _ _ l4)).trans l4
            have s1 : wr.heap.size < x1.heap.size := World.block_lt_of_cell? _ _ m1
            have hb01 := hide (hb0.trans (hb1.mono (Nat.le_of_lt s0)))
            have HB1 := hide (show B ≤ x1.heap.size from Nat.le_trans (Nat.le_trans hB HT1.out.touch.size) (Nat.le_of_lt s1))
            clear hS0
            have hS0 : (fun w' : World => w'.cell? ⟨N, 4, none⟩ = some (.slice na nn nc) ∧ w'.cell? ⟨wr.heap.size, 0, none⟩ = some (.string (nm2 k)) ∧ w'.cell? ⟨wr.heap.size, 1, none⟩ = some (.string (vl2 k))) x1 := ⟨m4, m0, m1⟩
            refine ⟨.inr hS0, ?_⟩
            clear hb0 hb1 hC k0 k1 l4
            try simp only [Act.put, List.setIfInBounds_toArray, List.set_cons_zero, List.set_cons_succ]
            refine wpAnyT_take (i := 6) (v := ?vct6) rfl (by kernel_rfl) (by kernel_rfl) (by kernel_rfl) (by kernel_rfl) (fun _ _ _ h => h) (Or.inl ⟨by rfl, ?hyct6⟩) hS0 ?rct6
            case hyct6 => (intro w' hSw; (try obtain ⟨q0, q1, q2⟩ := hSw); simp only [List.getElem_toArray, List.getElem_cons_zero, List.getElem_cons_succ]; go_simp; try (with_reducible rfl))
            simp only [List.getElem_toArray, List.getElem_cons_zero, List.getElem_cons_succ, Act.put, List.setIfInBounds_toArray, List.set_cons_zero, List.set_cons_succ]
            refine wpAnyT_done (by kernel_rfl) ?_ _
            clear hS0
            go_wp2_with fail
            refine ⟨⟨k + 1, rfl, hlt, hide ⟨pv1, ?_, HT1.out.trans (.of_below hb01.out)⟩⟩, ?_⟩
            · rw [setsP_yes hq]; exact HW1.out.below hb01.out
            · simp only [intOf]; omega
          | false =>
            rw [hq] at hC
            refine hC.mono ?_
            rintro e x1 ⟨rfl, hb1⟩
            have hb1 : Below x0.heap.size x0 x1 := (Below.refl x0.heap.size x0).drew.trans hb1
            have m0 : x1.cell? ⟨wr.heap.size, 0, none⟩ = some (.string (nm2 k)) := (hb1.cell (p := ⟨wr.heap.size, 0, none⟩) s0).trans k0
            have m1 : x1.cell? ⟨wr.heap.size, 1, none⟩ = some (.string (vl2 k)) := (hb1.cell (p := ⟨wr.heap.size, 1, none⟩) s0).trans k1
            have m4 : x1.cell? ⟨N, 4, none⟩ = some (.slice na nn nc) := (hb1.cell (p := ⟨N, 4, none⟩) (World.block_lt_of_cell? _ _ l4)).trans l4
            have s1 : wr.heap.size < x1.heap.size := World.block_lt_of_cell? _ _ m1
            have hb01 := hide (hb0.trans (hb1.mono (Nat.le_of_lt s0)))
            have HB1 := hide (show B ≤ x1.heap.size from Nat.le_trans (Nat.le_trans hB HT1.out.touch.size) (Nat.le_of_lt s1))
            clear hS0
            have hS0 : (fun w' : World => w'.cell? ⟨N, 4, none⟩ = some (.slice na nn nc) ∧ w'.cell? ⟨wr.heap.size, 0, none⟩ = some (.string (nm2 k)) ∧ w'.cell? ⟨wr.heap.size, 1, none⟩ = some (.string (vl2 k))) x1 := ⟨m4, m0, m1⟩
            refine ⟨.inr hS0, ?_⟩
            clear hb0 hb1 hC k0 k1 l4
            try simp only [Act.put, List.setIfInBounds_toArray, List.set_cons_zero, List.set_cons_succ]
            refine wpAnyT_take (i := 6) (v := ?vcf6) rfl (by kernel_rfl) (by kernel_rfl) (by kernel_rfl) (by kernel_rfl) (fun _ _ _ h => h) (Or.inl ⟨by rfl, ?hycf6⟩) hS0 ?rcf6
            case hycf6 => (intro w' hSw; (try obtain ⟨q0, q1, q2⟩ := hSw); simp only [List.getElem_toArray, List.getElem_cons_zero, List.getElem_cons_succ]; go_simp; try (with_reducible rfl))
            simp only [List.getElem_toArray, List.getElem_cons_zero, List.getElem_cons_succ, Act.put, List.setIfInBounds_toArray, List.set_cons_zero, List.set_cons_succ]
            refine wpAnyT_done (by kernel_rfl) ?_ _
            clear hS0
            have p0 : x1.cell? ⟨N, 0, none⟩ = some (.int .i64 id) := (HF.out.cell (HT1.out.trans (.of_below hb01.out))).trans n0
            go_wp2_with fail
            have hS0 : (fun w' : World => w'.cell? ⟨N, 0, none⟩ = some (.int .i64 id) ∧ w'.cell? ⟨wr.heap.size, 0, none⟩ = some (.string (nm2 k)) ∧ w'.cell? ⟨wr.heap.size, 1, none⟩ = some (.string (vl2 k))) x1.drew := ⟨p0, m0, m1⟩
            refine wp_region_last (S := (fun w' : World => w'.cell? ⟨N, 0, none⟩ = some (.int .i64 id) ∧ w'.cell? ⟨wr.heap.size, 0, none⟩ = some (.string (nm2 k)) ∧ w'.cell? ⟨wr.heap.size, 1, none⟩ = some (.string (vl2 k)))) (by kernel_rfl) ?_
            refine wpAnyT_take (i := 0) (v := ?vd0) rfl (by kernel_rfl) (by kernel_rfl) (by kernel_rfl) (by kernel_rfl) (fun _ _ _ h => h) (Or.inl ⟨by rfl, ?hyd0⟩) hS0 ?rd0
            case hyd0 => (intro w' hSw; (try obtain ⟨q0, q1, q2⟩ := hSw); simp only [List.getElem_toArray, List.getElem_cons_zero]; go_simp; try (with_reducible rfl))
            simp only [List.getElem_toArray, List.getElem_cons_zero, Act.put, List.setIfInBounds_toArray, List.set_cons_zero, List.set_cons_succ]
            refine wpAnyT_take (i := 1) (v := ?vd1) rfl (by kernel_rfl) (by kernel_rfl) (by kernel_rfl) (by kernel_rfl) (fun _ _ _ h => h) (Or.inl ⟨by rfl, ?hyd1⟩) hS0 ?rd1
            case hyd1 => (intro w' hSw; (try obtain ⟨q0, q1, q2⟩ := hSw); simp only [List.getElem_toArray, List.getElem_cons_zero, List.getElem_cons_succ]; go_simp; try (with_reducible rfl))
            simp only [List.getElem_toArray, List.getElem_cons_zero, List.getElem_cons_succ, Act.put, List.setIfInBounds_toArray, List.set_cons_zero, List.set_cons_succ]
            refine wpAnyT_take (i := 2) (v := ?vd2) rfl (by kernel_rfl) (by kernel_rfl) (by kernel_rfl) (by kernel_rfl) (fun _ _ _ h => h) (Or.inl ⟨by rfl, ?hyd2⟩) hS0 ?rd2
            case hyd2 => (intro w' hSw; (try obtain ⟨q0, q1, q2⟩ := hSw); simp only [List.getElem_toArray, List.getElem_cons_zero, List.getElem_cons_succ]; go_simp; try (with_reducible rfl))
            simp only [List.getElem_toArray, List.getElem_cons_zero, List.getElem_cons_succ, Act.put, List.setIfInBounds_toArray, List.set_cons_zero, List.set_cons_succ]
            refine wpAnyT_take (i := 3) (v := ?vd3) rfl (by kernel_rfl) (by kernel_rfl) (by kernel_rfl) (by kernel_rfl) (fun _ _ _ h => h) (Or.inl ⟨by rfl, ?hyd3⟩) hS0 ?rd3
            case hyd3 => (intro w' hSw; (try obtain ⟨q0, q1, q2⟩ := hSw); simp only [List.getElem_toArray, List.getElem_cons_zero, List.getElem_cons_succ]; go_simp; try (with_reducible rfl))
            simp only [List.getElem_toArray, List.getElem_cons_zero, List.getElem_cons_succ, Act.put, List.setIfInBounds_toArray, List.set_cons_zero, List.set_cons_succ]
            refine wpAnyT_take (i := 4) (v := ?vd4) rfl (by kernel_rfl) (by kernel_rfl) (by kernel_rfl) (by kernel_rfl) (fun _ _ _ h => h) (Or.inl ⟨by rfl, ?hyd4⟩) hS0 ?rd4
            case hyd4 => (intro w' hSw; (try obtain ⟨q0, q1, q2⟩ := hSw); simp only [List.getElem_toArray, List.getElem_cons_zero, List.getElem_cons_succ]; go_simp; try (with_reducible rfl))
            simp only [List.getElem_toArray, List.getElem_cons_zero, List.getElem_cons_succ, Act.put, List.setIfInBounds_toArray, List.set_cons_zero, List.set_cons_succ]
            refine wpAnyT_take (i := 5) (v := ?vd5) rfl (by kernel_rfl) (by kernel_rfl) (by kernel_rfl) (by kernel_rfl) (fun _ _ _ h => h) (Or.inl ⟨by rfl, ?hyd5⟩) hS0 ?rd5
            case hyd5 => (intro w' hSw; (try obtain ⟨q0, q1, q2⟩ := hSw); simp only [List.getElem_toArray, List.getElem_cons_zero, List.getElem_cons_succ]; go_simp; try (with_reducible rfl))
            simp only [List.getElem_toArray, List.getElem_cons_zero, List.getElem_cons_succ, Act.put, List.setIfInBounds_toArray, List.set_cons_zero, List.set_cons_succ]
            refine wpAnyT_take (i := 6) (v := ?vd6) rfl (by kernel_rfl) (by kernel_rfl) (by kernel_rfl) (by kernel_rfl) (fun _ _ _ h => h) (Or.inl ⟨by rfl, ?hyd6⟩) hS0 ?rd6
            case hyd6 => (intro w' hSw; (try obtain ⟨q0, q1, q2⟩ := hSw); simp only [List.getElem_toArray, List.getElem_cons_zero, List.getElem_cons_succ]; go_simp; try (with_reducible rfl))
            simp only [List.getElem_toArray, List.getElem_cons_zero, List.getElem_cons_succ, Act.put, List.setIfInBounds_toArray, List.set_cons_zero, List.set_cons_succ]
            refine wpAnyT_take (i := 7) (v := ?vd7) rfl (by kernel_rfl) (by kernel_rfl) (by kernel_rfl) (by kernel_rfl) (fun _ _ _ h => h) (Or.inl ⟨by rfl, ?hyd7⟩) hS0 ?rd7
            case hyd7 => (intro w' hSw; (try obtain ⟨q0, q1, q2⟩ := hSw); simp only [List.getElem_toArray, List.getElem_cons_zero, List.getElem_cons_succ]; go_simp; try (with_reducible rfl))
            simp only [List.getElem_toArray, List.getElem_cons_zero, List.getElem_cons_succ, Act.put, List.setIfInBounds_toArray, List.set_cons_zero, List.set_cons_succ]
            refine wpAnyT_take (i := 8) (v := ?vd8) rfl (by kernel_rfl) (by kernel_rfl) (by kernel_rfl) (by kernel_rfl) (fun _ _ _ h => h) (Or.inl ⟨by rfl, ?hyd8⟩) hS0 ?rd8
            case hyd8 => (intro w' hSw; (try obtain ⟨q0, q1, q2⟩ := hSw); simp only [List.getElem_toArray, List.getElem_cons_zero, List.getElem_cons_succ]; go_simp; try (with_reducible rfl))
            simp only [List.getElem_toArray, List.getElem_cons_zero, List.getElem_cons_succ, Act.put, List.setIfInBounds_toArray, List.set_cons_zero, List.set_cons_succ]
            refine wpAnyT_take (i := 9) (v := ?vd9) rfl (by kernel_rfl) (by kernel_rfl) (by kernel_rfl) (by kernel_rfl) (fun _ _ _ h => h) (Or.inl ⟨by rfl, ?hyd9⟩) hS0 ?rd9
            case hyd9 => (intro w' hSw; (try obtain ⟨q0, q1, q2⟩ := hSw); simp only [List.getElem_toArray, List.getElem_cons_zero, List.getElem_cons_succ]; go_simp; try (with_reducible rfl))
            simp only [List.getElem_toArray, List.getElem_cons_zero, List.getElem_cons_succ, Act.put, List.setIfInBounds_toArray, List.set_cons_zero, List.set_cons_succ]
            refine wpAnyT_one (i := 10) rfl (by kernel_rfl) (by rfl) ?_
            simp only [List.getElem_toArray, List.getElem_cons_zero, List.getElem_cons_succ]
            go_simp
            have l1 := HB1.out
            refine ⟨.inr ?_, ?_⟩
            · exact ((((Below.refl x1.heap.size x1).alloc (Nat.le_refl _) _).cell (p := ⟨N, 0, none⟩) (World.block_lt_of_cell? _ _ p0))).trans p0
            clear hS0
            refine wpAnyT_one (i := 11) rfl (by kernel_rfl) (by rfl) ?_
            simp only [List.getElem_toArray, List.getElem_cons_zero, List.getElem_cons_succ]
            go_simp
            refine (tell_new B WB pv1 (P ++ unsP id nm nm2 an nn ++ setsP id nm vl nn nm2 vl2 k) last x1 (HW1.out.below hb01.out) l1 (by have := unsP_length id nm nm2 an nn; have := setsP_length id nm vl nn nm2 vl2 k; rw [List.length_append, List.length_append]; omega) 4 id 0 0 0 ⟨#[]⟩ (nm2 k) (vl2 k) (by decide) (HS2.out k hlt).1 (HS2.out k hlt).2).mono ?_
            rintro e x3 ⟨rfl, pv3, hW3, hT3⟩
            have fN : Free WB pv1 x1 N := HF.out.tells (HT1.out.trans (.of_below hb01.out))
            have fB : Free WB pv1 x1 wr.heap.size := ⟨s1, Nat.ne_of_gt HW1.out.lt, fun e => Nat.lt_irrefl _ (HW1.out.row.lt _ e).2⟩
            refine ⟨.inr ⟨(fN.cell hT3).trans p0, (fB.cell hT3).trans m0, (fB.cell hT3).trans m1⟩, ?_⟩
            have HW3 := hide hW3
            have HT3 := hide (HT1.out.trans ((Tells.of_below hb01.out).trans hT3))
            clear hW3 hT3
            refine wpAnyT_done (by kernel_rfl) ?_ _
            go_wp2_with fail
            refine ⟨⟨k + 1, rfl, hlt, hide ⟨pv3, ?_, HT3.out⟩⟩, ?_⟩
            · rw [setsP_no hq, ← List.append_assoc]; exact HW3.out
            · simp only [intOf]; omega
        · have : an = k := by omega
          subst this
          go_wp2_with fail
          refine bodyPost_end (results_none rfl _ _ _) rfl ?_
          exact ⟨rfl, hE.out⟩
end Go.Proofs.Ytobgcaemnpkbmaa
