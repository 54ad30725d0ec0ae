/- Sn Pda -/
import Derived.Test.YtobgcaemnpkbmaaGreatD29
import Derived.Test.YtobgcaemnpkbmaaGreatD14
import Derived.Test.YtobgcaemnpkbmaaGreatD19
import Derived.Test.YtobgcaemnpkbmaaGreatD27
import Derived.Test.YtobgcaemnpkbmaaGreatD08
namespace Go.Proofs.YtobgcaemnpkbmaaGreat
open Go.RowKit
set_option maxHeartbeats 2000000 in
set_option maxRecDepth 100000 in
theorem set_new (ρ : Roles) (nb : Int → Nat) (mb : Nat) (rt : Option Nat) (w : World) (q : Nat) (R : List RN) (last : Int) (h : Dom ρ nb mb rt w q R last) (kd id pa bf ky : Int) (tg nm tx : ByteArray) (k : Nat) (hk : k < R.length) (hid : I64 R[k].id) (hidk : R[k].id = id) (hI : Ids R) (htag : R[k].tag.toList.isEmpty = false) (hns : nm.size ≤ maxLen) (hnm : nameB nm = true) (hts : tx.size ≤ maxLen) (htx : textB tx = true) (hsz : tx.size ≤ 281474976710656) (hsn : nm.size ≤ 281474976710656) (hhit : hitP R[k].ats nm = false) (h5 : R[k].ats.length < 5) :
    Calls Tryz.prog 89 #[.pointer (some ⟨q, 0, none⟩), .agg #[.int .i64 kd, .int .i64 id, .int .i64 pa, .int .i64 bf, .int .i64 ky, .string tg, .string nm, .string tx]] w fun e w' => e = .returned (.bool true) ∧ ∃ ρ', Wrote ρ ρ' w w' ∧ Dom ρ' nb mb rt w' q (R.set k { R[k] with ats := setP R[k].ats nm tx }) last := by
  subst hidk
  obtain ⟨av, kv, hP⟩ := h.node _ (List.getElem_mem hk)
  have d1 : w.cell? ⟨q, 1, none⟩ = some (.map (some mb)) := cell_of_blk h.blk 1 _ rfl
  have ltq := lt_of_blk h.blk
  have Hlk : Hid (∀ w1, Below w.heap.size w w1 → (Instr.lookup 111 (.map (some mb)) (.int .i64 R[k].id) false).run Tryz.prog w1 = .ok (.pointer (some ⟨nb R[k].id, 0, none⟩)) w1) := hide fun w1 hb => by
    have := (h.below hb).map.look hid
    rw [blkOf_yes (List.getElem_mem hk)] at this
    exact this
  have HEl : Hid (∀ w1, Below w.heap.size w w1 → Calls Tryz.prog 102 #[.pointer (some ⟨nb R[k].id, 0, none⟩)] w1 fun e w' => e = .returned (.bool true) ∧ w1 = w') := hide fun w1 hb => by
    have := isElem_any (hP.kept (R' := R) (w' := w1) (ρ' := ρ) (fun b j e => hb.block b (h.low b (by rw [e]; rfl))) (fun _ _ => rfl) rfl)
    rw [htag] at this
    exact this.mono fun _ _ h => ⟨h.1, h.2.symm⟩
  have HNm : Hid (∀ w1, Calls Tryz.prog 97 #[.string nm] w1 fun e w' => e = .returned (.bool true) ∧ w1 = w') := hide fun w1 => (isName_is nm _ hnm hns w1).mono fun _ _ h => ⟨h.1, h.2.symm⟩
  have HTx : Hid (∀ w1, Calls Tryz.prog 99 #[.string tx] w1 fun e w' => e = .returned (.bool true) ∧ w1 = w') := hide fun w1 => (isText_is tx _ htx hts w1).mono fun _ _ h => ⟨h.1, h.2.symm⟩
  have HFd : Hid (∀ w1, Below w.heap.size w w1 → Calls Tryz.prog 106 #[.pointer (some ⟨nb R[k].id, 0, none⟩), .string nm] w1 fun e w' => e = .returned (.tuple #[.int .i64 (posP R[k].ats nm), .bool false]) ∧ Below w1.heap.size w1 w') := hide fun w1 hb => by
    have := find_any (hP.kept (R' := R) (w' := w1) (ρ' := ρ) (fun b j e => hb.block b (h.low b (by rw [e]; rfl))) (fun _ _ => rfl) rfl) nm
    rw [hhit] at this
    exact this
  obtain ⟨ao, c, rfl⟩ := own_shape hP.arow
  have hfew := hP.few
  have c4 : w.cell? ⟨nb R[k].id, 4, none⟩ = some (.slice ao R[k].ats.length c) := cell_of_blk hP.blk 4 _ rfl
  have f4 := frozen_of_blk hP.blk 4
  have ltK := hP.lt
  have h5' : ¬ (5 : Int) ≤ (R[k].ats.length : Int) := by omega
  have HOn : Hid (∀ w1, Calls Tryz.prog 63 #[.string nm] w1 fun e w' => e = .returned (.string nm) ∧ Below w1.heap.size w1 w') := hide fun w1 => own_any nm w1 hsn
  have HOw : Hid (∀ w1, Calls Tryz.prog 63 #[.string tx] w1 fun e w' => e = .returned (.string tx) ∧ Below w1.heap.size w1 w') := hide fun w1 => own_any tx w1 hsz
  have HavK : Hid (Value.ownBlock (.slice ao R[k].ats.length c) ≠ some (nb R[k].id)) := hide fun e => by
    have := hP.arole _ e
    rw [hP.role] at this
    have := (Prod.mk.inj (Option.some.inj this)).2
    omega
  have HavL : Hid (∀ b, Value.ownBlock (.slice ao R[k].ats.length c) = some b → b < w.heap.size) := hide fun b e => (hP.arow.lt b e).2
  have HIns : Hid (∀ wx, Below w.heap.size w wx → ∀ vb, wx.heap[vb]? = some (.cells #[.string nm, .string ⟨#[]⟩] 72 (0, 0)) → w.heap.size ≤ vb → Calls Tryz.prog 107 #[.slice ao R[k].ats.length c, .int .i64 (posP R[k].ats nm), .slice (some ⟨vb, 0, none⟩) 1 1] wx
      (InsPost_attr wx (.slice ao R[k].ats.length c) R[k].ats.length (attrCells (R[k].ats.take (posP R[k].ats nm) ++ [(nm, ⟨#[]⟩)] ++ R[k].ats.drop (posP R[k].ats nm))))) := by
    refine hide fun wx hb vb hvb hvw => ?_
    have := insert_attr (.slice ao R[k].ats.length c) R[k].ats.length (posP R[k].ats nm) vb (attrCells R[k].ats) [.string nm, .string ⟨#[]⟩] wx (ownsRow_below hP.arow hb) (posP_le _ _) (by omega) (attrCells_one _) rfl (by simp [Value.oneCell']) hvb (fun e => by have := (hP.arow.lt _ e).2; omega)
    rw [attrCells_append, attrCells_append, attrCells_take, attrCells_drop]
    exact this
  have HD := hide h
  have HP := hide hP
  clear h hP
  go_enter Tryz.func89, Tryz.ntmps89
  go_wp2_with fail
  generalize hw0 : w.alloc (.cells #[.int .i64 kd, .int .i64 R[k].id, .int .i64 pa, .int .i64 bf, .int .i64 ky, .string tg, .string nm, .string tx] 29) = w0
  have hb0 : Below w.heap.size w w0 := by rw [← hw0]; exact (Below.refl _ _).alloc (Nat.le_refl _) _
  have lt0 : w.heap.size < w0.heap.size := by rw [← hw0]; simp
  have x1 : w0.cell? ⟨w.heap.size, 1, none⟩ = some (.int .i64 R[k].id) := by rw [← hw0]; simp [go_sem]
  have x6 : w0.cell? ⟨w.heap.size, 6, none⟩ = some (.string nm) := by rw [← hw0]; simp [go_sem]
  have x7 : w0.cell? ⟨w.heap.size, 7, none⟩ = some (.string tx) := by rw [← hw0]; simp [go_sem]
  have y1 : w0.cell? ⟨q, 1, none⟩ = some (.map (some mb)) := (hb0.cell (p := ⟨q, 1, none⟩) ltq).trans d1
  have lk : ∀ n, (Instr.lookup 111 (.map (some mb)) (.int .i64 R[k].id) false).run Tryz.prog (w0.drewN n) = .ok (.pointer (some ⟨nb R[k].id, 0, none⟩)) (w0.drewN n) := fun n => Hlk.out _ ⟨hb0.os, hb0.tape, hb0.output, hb0.size, hb0.block⟩
  have HB0 := hide hb0
  clear hw0 hb0 d1
  go_big_quiet (fail)
  go_wp2_with (first | (go_at_call 102; refine (unhide HEl _ (belowD (unhide HB0) _)).mono ?_; rintro e w1 ⟨rfl, rfl⟩) | (go_at_call 97; refine (unhide HNm _).mono ?_; rintro e w1 ⟨rfl, rfl⟩) | (go_at_call 99; refine (unhide HTx _).mono ?_; rintro e w1 ⟨rfl, rfl⟩) | (go_at_call 106; refine (unhide HFd _ (belowD (unhide HB0) _)).mono ?_; rintro e w1 ⟨rfl, hb1⟩; have z6 := (hb1.cell (p := ⟨w.heap.size, 6, none⟩) lt0).trans x6; have z7 := (hb1.cell (p := ⟨w.heap.size, 7, none⟩) lt0).trans x7; have ls1 := hb1.size; have lt1 : w.heap.size < w1.heap.size := Nat.lt_of_lt_of_le lt0 ls1; have HB1 := hide ((belowD (unhide HB0) _).trans (hb1.mono (unhide HB0).size)); have p4 := ((unhide HB1).cell (p := ⟨nb R[k].id, 4, none⟩) ltK).trans c4; clear hb1))
  have lK1 : nb R[k].id < w1.heap.size := by omega
  have q4 := (HB1.out.frozen (p := ⟨nb R[k].id, 4, none⟩) ltK).trans f4
  have n1 : nb R[k].id ≠ w.heap.size := by omega
  have hS0 : (fun w' => w'.frozen? ⟨nb R[k].id, 4, none⟩ = false ∧ w'.cell? ⟨nb R[k].id, 4, none⟩ = some (.slice ao R[k].ats.length c) ∧ w'.cell? ⟨w.heap.size, 6, none⟩ = some (.string nm)) w1.drew := ⟨q4, p4, z6⟩
  refine wp_region_last (S := (fun w' => w'.frozen? ⟨nb R[k].id, 4, none⟩ = false ∧ w'.cell? ⟨nb R[k].id, 4, none⟩ = some (.slice ao R[k].ats.length c) ∧ w'.cell? ⟨w.heap.size, 6, none⟩ = some (.string nm))) (by kernel_rfl) ?_
  refine wpAnyT_take (i := 0) (v := ?v0) rfl (by kernel_rfl) (by kernel_rfl) (by kernel_rfl) (by kernel_rfl) (fun _ _ _ h => h) (Or.inl ⟨by rfl, ?hy0⟩) hS0 ?r0
  case hy0 => (intro w' hSw; (try dsimp only at hSw); simp only [List.getElem_toArray, List.getElem_cons_zero]; go_simp; try (with_reducible rfl))
  simp only [List.getElem_toArray, List.getElem_cons_zero, Act.put, List.setIfInBounds_toArray, List.set_cons_zero, List.set_cons_succ]
  refine wpAnyT_take (i := 1) (v := ?v1) rfl (by kernel_rfl) (by kernel_rfl) (by kernel_rfl) (by kernel_rfl) (fun _ _ _ h => h) (Or.inl ⟨by rfl, ?hy1⟩) hS0 ?r1
  case hy1 => (intro w' hSw; (try dsimp only at hSw); simp only [List.getElem_toArray, List.getElem_cons_zero, List.getElem_cons_succ]; go_simp; try (with_reducible rfl))
  simp only [List.getElem_toArray, List.getElem_cons_zero, List.getElem_cons_succ, Act.put, List.setIfInBounds_toArray, List.set_cons_zero, List.set_cons_succ]
  refine wpAnyT_take (i := 2) (v := ?v2) rfl (by kernel_rfl) (by kernel_rfl) (by kernel_rfl) (by kernel_rfl) (fun _ _ _ h => h) (Or.inl ⟨by rfl, ?hy2⟩) hS0 ?r2
  case hy2 => (intro w' hSw; (try dsimp only at hSw); simp only [List.getElem_toArray, List.getElem_cons_zero, List.getElem_cons_succ]; go_simp; try (with_reducible rfl))
  simp only [List.getElem_toArray, List.getElem_cons_zero, List.getElem_cons_succ, Act.put, List.setIfInBounds_toArray, List.set_cons_zero, List.set_cons_succ]
  refine wpAnyT_take (i := 3) (v := ?v3) rfl (by kernel_rfl) (by kernel_rfl) (by kernel_rfl) (by kernel_rfl) (fun _ _ _ h => h) (Or.inl ⟨by rfl, ?hy3⟩) hS0 ?r3
  case hy3 => (intro w' hSw; (try dsimp only at hSw); simp only [List.getElem_toArray, List.getElem_cons_zero, List.getElem_cons_succ]; go_simp; try (with_reducible rfl))
  simp only [List.getElem_toArray, List.getElem_cons_zero, List.getElem_cons_succ, Act.put, List.setIfInBounds_toArray, List.set_cons_zero, List.set_cons_succ]
  refine wpAnyT_take (i := 4) (v := ?v4) rfl (by kernel_rfl) (by kernel_rfl) (by kernel_rfl) (by kernel_rfl) (fun _ _ _ h => h) (Or.inl ⟨by rfl, ?hy4⟩) hS0 ?r4
  case hy4 => (intro w' hSw; (try dsimp only at hSw); simp only [List.getElem_toArray, List.getElem_cons_zero, List.getElem_cons_succ]; go_simp; try (with_reducible rfl))
  simp only [List.getElem_toArray, List.getElem_cons_zero, List.getElem_cons_succ, Act.put, List.setIfInBounds_toArray, List.set_cons_zero, List.set_cons_succ]
  refine wpAnyT_take (i := 5) (v := ?v5) rfl (by kernel_rfl) (by kernel_rfl) (by kernel_rfl) (by kernel_rfl) (fun _ _ _ h => h) (Or.inl ⟨by rfl, ?hy5⟩) hS0 ?r5
  case hy5 => (intro w' hSw; (try dsimp only at hSw); simp only [List.getElem_toArray, List.getElem_cons_zero, List.getElem_cons_succ]; go_simp; try (with_reducible rfl))
  simp only [List.getElem_toArray, List.getElem_cons_zero, List.getElem_cons_succ, Act.put, List.setIfInBounds_toArray, List.set_cons_zero, List.set_cons_succ]
  refine wpAnyT_take (i := 6) (v := ?v6) rfl (by kernel_rfl) (by kernel_rfl) (by kernel_rfl) (by kernel_rfl) (fun _ _ _ h => h) (Or.inl ⟨by rfl, ?hy6⟩) hS0 ?r6
  case hy6 => (intro w' hSw; (try dsimp only at hSw); simp only [List.getElem_toArray, List.getElem_cons_zero, List.getElem_cons_succ]; go_simp; try (with_reducible rfl))
  simp only [List.getElem_toArray, List.getElem_cons_zero, List.getElem_cons_succ, Act.put, List.setIfInBounds_toArray, List.set_cons_zero, List.set_cons_succ]
  refine wpAnyT_take (i := 7) (v := ?v7) rfl (by kernel_rfl) (by kernel_rfl) (by kernel_rfl) (by kernel_rfl) (fun _ _ _ h => h) (Or.inl ⟨by rfl, ?hy7⟩) hS0 ?r7
  case hy7 => (intro w' hSw; (try dsimp only at hSw); simp only [List.getElem_toArray, List.getElem_cons_zero, List.getElem_cons_succ]; go_simp; try (with_reducible rfl))
  simp only [List.getElem_toArray, List.getElem_cons_zero, List.getElem_cons_succ, Act.put, List.setIfInBounds_toArray, List.set_cons_zero, List.set_cons_succ]
  refine wpAnyT_one (i := 8) rfl (by kernel_rfl) (by rfl) ?_
  simp only [List.getElem_toArray, List.getElem_cons_zero, List.getElem_cons_succ]
  go_simp
  refine (unhide HOn _).mono ?_
  rintro e w2 ⟨rfl, hb2⟩
  have s2 : w1.heap.size ≤ w2.heap.size := hb2.size
  have HB2 := hide (HB1.out.trans (((Below.refl w1.heap.size w1).drew.trans hb2).mono HB1.out.size))
  have a4 := (hb2.cell (p := ⟨nb R[k].id, 4, none⟩) lK1).trans p4
  have a5 := (hb2.frozen (p := ⟨nb R[k].id, 4, none⟩) lK1).trans q4
  have a6 := (hb2.cell (p := ⟨w.heap.size, 6, none⟩) lt1).trans z6
  have a7 := (hb2.cell (p := ⟨w.heap.size, 7, none⟩) lt1).trans z7
  refine ⟨.inr ⟨a5, a4, a6⟩, ?_⟩
  clear hb2 hS0 p4 q4 z6 z7
  try simp only [Act.put, List.setIfInBounds_toArray, List.set_cons_zero, List.set_cons_succ]
  refine wpAnyT_one (i := 9) rfl (by kernel_rfl) (by rfl) ?_
  simp only [List.getElem_toArray, List.getElem_cons_zero, List.getElem_cons_succ]
  go_simp
  refine wpAnyT_one (i := 10) rfl (by kernel_rfl) (by rfl) ?_
  simp only [List.getElem_toArray, List.getElem_cons_zero, List.getElem_cons_succ]
  go_simp
  generalize hw3 : w2.alloc (.cells #[.string nm, .string ⟨#[]⟩] 72) = w3
  have hvb : w3.heap[w2.heap.size]? = some (.cells #[.string nm, .string ⟨#[]⟩] 72 (0, 0)) := by rw [← hw3]; exact heap_alloc_new w2 _
  have hb3 : Below w2.heap.size w2 w3 := by rw [← hw3]; exact (Below.refl _ _).alloc (Nat.le_refl _) _
  have s3 : w3.heap.size = w2.heap.size + 1 := by rw [← hw3]; simp
  have lK2 : nb R[k].id < w2.heap.size := by omega
  have lW2 : w.heap.size < w2.heap.size := by omega
  have b4 := (hb3.cell (p := ⟨nb R[k].id, 4, none⟩) lK2).trans a4
  have b5 := (hb3.frozen (p := ⟨nb R[k].id, 4, none⟩) lK2).trans a5
  have b6 := (hb3.cell (p := ⟨w.heap.size, 6, none⟩) lW2).trans a6
  have b7 := (hb3.cell (p := ⟨w.heap.size, 7, none⟩) lW2).trans a7
  have HB3 := hide (HB2.out.trans (hb3.mono HB2.out.size))
  have S3 := hide s3
  have lt3 : w2.heap.size < w3.heap.size := by omega
  refine ⟨.inr ⟨b5, b4, b6⟩, ?_⟩
  clear hw3 hb3 s3 a4 a5 a6 a7
  refine wpAnyT_one (i := 11) rfl (by kernel_rfl) (by rfl) ?_
  simp only [List.getElem_toArray, List.getElem_cons_zero, List.getElem_cons_succ]
  go_simp
  refine (HIns.out w3 HB3.out w2.heap.size hvb (by omega)).mono ?_
  rintro e w4 ⟨v', rfl, hrow, hgr, hv⟩
  obtain ⟨g, c2, rfl⟩ : ∃ g c2, v' = .slice (some ⟨g, 0, none⟩) (R[k].ats.length + 1) c2 := by
    rcases hrow.2 with ⟨_, e⟩ | ⟨g, cap, cur, e, _⟩
    · omega
    · exact ⟨g, cap, e⟩
  have s4 : w3.heap.size ≤ w4.heap.size := hgr.size
  have hgg : Value.ownBlock (.slice ao R[k].ats.length c) = some g ∨ w3.heap.size ≤ g := by
    rcases hv with h | ⟨b', h, hb'⟩
    · exact .inl h.symm
    · cases h; exact .inr hb'
  have HGG := hide hgg
  have gl4 : g < w4.heap.size := (hrow.lt g rfl).2
  have gK : g ≠ nb R[k].id := by
    rcases hgg with h | h
    · exact fun e => HavK.out (by rw [h, e])
    · omega
  have gW : g ≠ w.heap.size := by
    rcases hgg with h | h
    · have := HavL.out g h; omega
    · omega
  have hq4 : ∀ b, b < w3.heap.size → Value.ownBlock (.slice ao R[k].ats.length c) ≠ some b → w4.heap[b]? = w3.heap[b]? := fun b hb hn => hgr.block b hb (fun e => hn e.symm)
  have d4 := (World.cell?_of_block (w := w3) (a := ⟨nb R[k].id, 4, none⟩) (hq4 (nb R[k].id) (by omega) HavK.out)).trans b4
  have d5 := (World.frozen?_of_block (w := w3) (a := ⟨nb R[k].id, 4, none⟩) (hq4 (nb R[k].id) (by omega) HavK.out)).trans b5
  have d6 := (World.cell?_of_block (w := w3) (a := ⟨w.heap.size, 6, none⟩) (hq4 w.heap.size (by omega) (fun e => by have := HavL.out w.heap.size e; omega))).trans b6
  have d7 := (World.cell?_of_block (w := w3) (a := ⟨w.heap.size, 7, none⟩) (hq4 w.heap.size (by omega) (fun e => by have := HavL.out w.heap.size e; omega))).trans b7
  have HRow := hide hrow
  have HGr := hide hgr
  have HQ4 := hide hq4
  refine ⟨.inr ⟨d5, d4, d6⟩, ?_⟩
  clear hrow hgr hv hgg hq4 b4 b5 b6 b7
  refine wpAnyT_one (i := 12) rfl (by kernel_rfl) (by rfl) ?_
  simp only [List.getElem_toArray, List.getElem_cons_zero, List.getElem_cons_succ]
  go_simp
  refine wpAnyT_one (i := 13) rfl (by kernel_rfl) (by rfl) ?_
  simp only [List.getElem_toArray, List.getElem_cons_zero, List.getElem_cons_succ]
  go_simp
  refine wpAnyT_one (i := 14) rfl (by kernel_rfl) (by rfl) ?_
  simp only [List.getElem_toArray, List.getElem_cons_zero, List.getElem_cons_succ]
  go_simp
  refine ⟨by kernel_rfl, ?_⟩
  refine wpAnyT_done (by kernel_rfl) ?_ _
  generalize hw5 : w4.setCell ⟨nb R[k].id, 4, none⟩ (.slice (some ⟨g, 0, none⟩) (R[k].ats.length + 1) c2) = w5
  have s5 : w5.heap.size = w4.heap.size := by rw [← hw5]; exact size_setCell' _ _ _
  have e4 : w5.cell? ⟨nb R[k].id, 4, none⟩ = some (.slice (some ⟨g, 0, none⟩) (R[k].ats.length + 1) c2) := by rw [← hw5]; exact World.cell?_setCell_same _ _ _ d4
  have e7 : w5.cell? ⟨w.heap.size, 7, none⟩ = some (.string tx) := by rw [← hw5, World.cell?_of_block (Below.heap_setCell _ _ _ _ (Ne.symm n1))]; exact d7
  have hrow5 : w5.ownsRow 0 72 2 (.slice (some ⟨g, 0, none⟩) (R[k].ats.length + 1) c2) (R[k].ats.length + 1) (attrCells (R[k].ats.take (posP R[k].ats nm) ++ [(nm, ⟨#[]⟩)] ++ R[k].ats.drop (posP R[k].ats nm))) := by
    rw [← hw5]
    exact own_heap HRow.out fun b e => Below.heap_setCell _ _ _ _ (by cases e; exact gK)
  have hposn : posP R[k].ats nm < R[k].ats.length + 1 := by have := posP_le R[k].ats nm; omega
  obtain ⟨ov, pv⟩ : ∃ ov, w5.cell? ⟨g, posP R[k].ats nm * 2 + 1, none⟩ = some ov := by
    rw [hrow5.cellAt _ (by omega)]
    exact ⟨_, List.getElem?_eq_getElem (by have := hrow5.1; omega)⟩
  have qv := hrow5.frozenAt (posP R[k].ats nm * 2 + 1)
  have HB5 : Hid (∀ b, b < w.heap.size → b ≠ nb R[k].id → Value.ownBlock (.slice ao R[k].ats.length c) ≠ some b → w5.heap[b]? = w.heap[b]?) := hide fun b hb h1 h2 => by
    rw [← hw5, Below.heap_setCell _ _ _ _ h1, HQ4.out b (by omega) h2]
    exact HB3.out.block b hb
  have HK5 : Hid (w5.heap[nb R[k].id]? = some (.cells (nodeCells nb { R[k] with ats := setP R[k].ats nm tx } (.slice (some ⟨g, 0, none⟩) (R[k].ats.length + 1) c2) kv) 138 (0, 0))) := by
    rw [← hw5]
    exact hide (set_blk (i := 4) (((HQ4.out (nb R[k].id) (by omega) HavK.out).trans (HB3.out.block _ ltK)).trans HP.out.blk) _)
  have HO5 : Hid (w5.os = w.os ∧ w5.tape = w.tape ∧ w5.output = w.output) := by
    rw [← hw5]
    exact hide ⟨HGr.out.os.trans HB3.out.os, HGr.out.tape.trans HB3.out.tape, HGr.out.output.trans HB3.out.output⟩
  have HR5 := hide hrow5
  have S5 := hide s5
  have gl5 : g < w5.heap.size := by omega
  have lK5 : nb R[k].id < w5.heap.size := by omega
  have lW5 : w.heap.size < w5.heap.size := by omega
  have ls5 : w3.heap.size ≤ w5.heap.size := by omega
  have hp1 : (0 : Int) ≤ (posP R[k].ats nm : Int) := by omega
  have hp2 : (posP R[k].ats nm : Int) < (R[k].ats.length : Int) + 1 := by omega
  have n3 : nb R[k].id ≠ g := fun e => gK e.symm
  have n4 : w.heap.size ≠ g := fun e => gW e.symm
  clear hw5 d4 d5 d6 d7 hrow5 s5
  go_wp2_with fail
  go_region_held3 (fun w' => w'.frozen? ⟨g, posP R[k].ats nm * 2 + 1, none⟩ = false ∧ w'.cell? ⟨nb R[k].id, 4, none⟩ = some (.slice (some ⟨g, 0, none⟩) (R[k].ats.length + 1) c2) ∧ w'.cell? ⟨w.heap.size, 7, none⟩ = some (.string tx))
    (first
      | go_keep
      | (go_split_ands
         refine ⟨?_, ?_, ?_⟩
         · (rw [hb6.frozen (by simp; omega)]; assumption)
         · (rw [hb6.cell (by simp; omega)]; assumption)
         · (rw [hb6.cell (by simp; omega)]; assumption))
      | (go_split_ands
         refine ⟨?_, ?_, ?_⟩
         · (rw [World.frozen?_setCell]; assumption)
         · (first | (rw [World.cell?_of_block (Below.heap_setCell _ _ _ _ n3)]; assumption) | go_keep)
         · (first | (rw [World.cell?_of_block (Below.heap_setCell _ _ _ _ n4)]; assumption) | go_keep)))
    ((go_at_call 63; refine (unhide HOw _).mono ?_; rintro e w6 ⟨rfl, hb6⟩; have f6 := (hb6.cell (p := ⟨g, posP R[k].ats nm * 2 + 1, none⟩) (by simp; omega)).trans pv))
  go_wp2_with fail
  go_ret
  have hb6' : Below w5.heap.size w5 w6 := (Below.refl w5.heap.size w5).drew.trans hb6
  have s6 := hb6'.size
  have s3 := S3.out
  have hav := HavL.out
  have hblk : ∀ b, b < w.heap.size → b ≠ nb R[k].id → b ≠ g → Value.ownBlock (.slice ao R[k].ats.length c) ≠ some b → (w6.setCell ⟨g, posP R[k].ats nm * 2 + 1, none⟩ (.string tx)).heap[b]? = w.heap[b]? := fun b hb h1 h2 h3 =>
    (Below.heap_setCell _ _ _ _ h2).trans ((hb6'.block b (by omega)).trans (HB5.out b hb h1 h3))
  have hst := ((ownsRow_below HR5.out hb6').stored (posP R[k].ats nm * 2 + 1) (.string tx)).1
  rw [setP_new HP.out.rise hhit] at hst
  have hlen : (setP R[k].ats nm tx).length = R[k].ats.length + 1 := by
    have := hst.1
    rw [attrCells_length] at this
    omega
  have hgρ : (ρ g).isSome = true → ρ g = some (R[k].id, 1) := fun hs => by
    rcases HGG.out with h | h
    · exact HP.out.arole g h
    · have := HD.out.low g hs; omega
  have hρ : ∀ b, (ρ b).isSome = true → (if b = g then some (R[k].id, 1) else ρ b) = ρ b := fun b hs => by
    by_cases e : b = g
    · subst e; rw [if_pos rfl, hgρ hs]
    · rw [if_neg e]
  have hold : ∀ b r, ρ b = some r → r ≠ (R[k].id, 0) → r ≠ (R[k].id, 1) → (w6.setCell ⟨g, posP R[k].ats nm * 2 + 1, none⟩ (.string tx)).heap[b]? = w.heap[b]? := fun b r e h0 h1 => by
    refine hblk b (HD.out.low b (by rw [e]; rfl)) (fun x => h0 ?_) (fun x => h1 ?_) (fun x => h1 ?_)
    · rw [x, HP.out.role] at e; exact (Option.some.inj e).symm
    · rw [x, hgρ (by rw [e]; rfl)] at e; exact (Option.some.inj e).symm
    · rw [HP.out.arole b x] at e; exact (Option.some.inj e).symm
  refine ⟨rfl, fun b => if b = g then some (R[k].id, 1) else ρ b, ⟨⟨hb6'.os.trans HO5.out.1, hb6'.tape.trans HO5.out.2.1, hb6'.output.trans HO5.out.2.2, by rw [size_setCell']; omega, fun b hb hn => ?_⟩, hρ, fun b hs => ?_⟩, ?_⟩
  · by_cases e : b = g
    · subst e
      rcases HGG.out with h | h
      · exact absurd (by rw [HP.out.arole b h]; rfl) hn
      · omega
    · exact hblk b hb (fun e => hn (by rw [e, HP.out.role]; rfl)) e (fun e => hn (by rw [HP.out.arole b e]; rfl))
  · by_cases e : b = g
    · subst e
      rcases HGG.out with h | h
      · exact .inl (by rw [HP.out.arole b h]; rfl)
      · exact .inr (by omega)
    · replace hs : (if b = g then some (R[k].id, 1) else ρ b).isSome = true := hs
      rw [if_neg e] at hs; exact .inl hs
  · refine Dom.put (n' := { R[k] with ats := setP R[k].ats nm tx }) (av' := .slice (some ⟨g, 0, none⟩) (R[k].ats.length + 1) c2) (kv' := kv) HD.out hI hk rfl rfl hρ (fun b hs => ?_) (fun b r e hr => hold b r e (fun x => hr (by rw [x])) (fun x => hr (by rw [x]))) ⟨?_, (hρ _ (by rw [HP.out.role]; rfl)).trans HP.out.role, ?_, ?_, ?_, fun b e => (hρ b (by rw [HP.out.krole b e]; rfl)).trans (HP.out.krole b e), ?_, rises_set HP.out.rise, HP.out.tag, HP.out.text, fun x hx => (setP_mem hx).elim (HP.out.size x) (fun e => by rw [e]; exact ⟨hns, hts⟩)⟩
    · rw [size_setCell']
      by_cases e : b = g
      · omega
      · replace hs : (if b = g then some (R[k].id, 1) else ρ b).isSome = true := hs
        rw [if_neg e] at hs
        have := HD.out.low b hs
        omega
    · exact (Below.heap_setCell _ _ _ _ n3).trans ((hb6'.block _ lK5).trans HK5.out)
    · show World.ownsRow _ _ _ _ _ (setP R[k].ats nm tx).length _
      rw [hlen]
      exact hst
    · intro b e
      cases e
      show (if g = g then some (R[k].id, 1) else ρ g) = _
      rw [if_pos rfl]
    · exact own_heap HP.out.krow fun b e => hold b _ (HP.out.krole b e) (fun x => by have := (Prod.mk.inj x).2; omega) (fun x => by have := (Prod.mk.inj x).2; omega)
    · show (setP R[k].ats nm tx).length ≤ 5
      omega
end Go.Proofs.YtobgcaemnpkbmaaGreat
namespace Go.Proofs.YtobgcaemnpkbmaaGreat
open Go.RowKit
theorem empty_list : (⟨#[]⟩ : ByteArray).toList = [] := by rw [ByteArray.toList_eq]
theorem need1 (id pa bf ky : Int) (tg nm tx : ByteArray) : patB ⟨1, id, pa, bf, ky, tg, nm, tx⟩ (needP ⟨1, id, pa, bf, ky, tg, nm, tx⟩) = ((pa == 0) && (bf == 0) && nm.toList.isEmpty) := by
  simp [patB, needP, Bool.and_assoc]
theorem need2 (id pa bf ky : Int) (tg nm tx : ByteArray) : patB ⟨2, id, pa, bf, ky, tg, nm, tx⟩ (needP ⟨2, id, pa, bf, ky, tg, nm, tx⟩) = ((ky == 0) && tg.toList.isEmpty && nm.toList.isEmpty && tx.toList.isEmpty) := by
  simp [patB, needP, Bool.and_assoc]
theorem need3 (id pa bf ky : Int) (tg nm tx : ByteArray) : patB ⟨3, id, pa, bf, ky, tg, nm, tx⟩ (needP ⟨3, id, pa, bf, ky, tg, nm, tx⟩) = ((pa == 0) && (bf == 0) && (ky == 0) && tg.toList.isEmpty && nm.toList.isEmpty && tx.toList.isEmpty) := by
  simp [patB, needP, Bool.and_assoc]
theorem need4 (id pa bf ky : Int) (tg nm tx : ByteArray) : patB ⟨4, id, pa, bf, ky, tg, nm, tx⟩ (needP ⟨4, id, pa, bf, ky, tg, nm, tx⟩) = ((pa == 0) && (bf == 0) && (ky == 0) && tg.toList.isEmpty) := by
  simp [patB, needP, Bool.and_assoc]
theorem need5 (id pa bf ky : Int) (tg nm tx : ByteArray) : patB ⟨5, id, pa, bf, ky, tg, nm, tx⟩ (needP ⟨5, id, pa, bf, ky, tg, nm, tx⟩) = ((pa == 0) && (bf == 0) && (ky == 0) && tg.toList.isEmpty && tx.toList.isEmpty) := by
  simp [patB, needP, Bool.and_assoc]
theorem need6 (id pa bf ky : Int) (tg nm tx : ByteArray) : patB ⟨6, id, pa, bf, ky, tg, nm, tx⟩ (needP ⟨6, id, pa, bf, ky, tg, nm, tx⟩) = ((pa == 0) && (bf == 0) && (ky == 0) && tg.toList.isEmpty && nm.toList.isEmpty) := by
  simp [patB, needP, Bool.and_assoc]
theorem at_two {R : List RN} (hI : Ids R) (id : Int) : (∃ k, ∃ hk : k < R.length, R[k].id = id ∧ atP R id = (k : Int)) ∨ ((∀ n, n ∈ R → n.id ≠ id) ∧ atP R id = -1) := by
  by_cases h : ∃ k, ∃ hk : k < R.length, R[k].id = id
  · obtain ⟨k, hk, rfl⟩ := h
    exact .inl ⟨k, hk, rfl, atP_id hI hk⟩
  · refine .inr ⟨fun n hn e => ?_, atP_none fun j hj e => h ⟨j, hj, e⟩⟩
    obtain ⟨k, hk, rfl⟩ := List.getElem_of_mem hn
    exact h ⟨k, hk, e⟩
def Fine (R : List RN) : Prop := ∀ n, n ∈ R → ∀ a, a ∈ n.ats → nameB a.1 = true ∧ n.tag.toList.isEmpty = false
def PPost (ρ : Roles) (nb : Int → Nat) (mb : Nat) (w : World) (q : Nat) (R : List RN) (last : Int) (x : Pat) (b : Bool) (w' : World) : Prop :=
  b = canP R last x ∧ ∃ nb' ρ', Wrote ρ ρ' w w' ∧ (∀ i, i ≠ last + 1 → nb' i = nb i) ∧ Dom ρ' nb' mb (some (nb' 1)) w' q (if b = true then didP R x else R) (if b = true then lastP last x else last)
theorem PPost.no {ρ : Roles} {nb : Int → Nat} {mb : Nat} {w : World} {q : Nat} {R : List RN} {last : Int} {x : Pat} {w' : World} (h : Dom ρ nb mb (some (nb 1)) w q R last) (hc : canP R last x = false) (hb : Below w.heap.size w w') : PPost ρ nb mb w q R last x false w' :=
  ⟨hc.symm, nb, ρ, ⟨Touch.of_below hb, fun _ _ => rfl, fun _ h => .inl h⟩, fun _ _ => rfl, h.below hb⟩
theorem PPost.ok {ρ ρ' : Roles} {nb : Int → Nat} {mb : Nat} {w : World} {q : Nat} {R R' : List RN} {last : Int} {x : Pat} {w' : World} (hc : canP R last x = true) (hR : didP R x = R') (hl : lastP last x = last) (hw : Wrote ρ ρ' w w') (hd : Dom ρ' nb mb (some (nb 1)) w' q R' last) : PPost ρ nb mb w q R last x true w' :=
  ⟨hc.symm, nb, ρ', hw, fun _ _ => rfl, by rw [if_pos rfl, if_pos rfl, hR, hl]; exact hd⟩
theorem PPost.after {ρ : Roles} {nb : Int → Nat} {mb : Nat} {w w1 : World} {q : Nat} {R : List RN} {last : Int} {x : Pat} {b : Bool} {w' : World} (hb : Below w.heap.size w w1) (h : PPost ρ nb mb w1 q R last x b w') : PPost ρ nb mb w q R last x b w' := by
  obtain ⟨h1, nb', ρ', h2, h3, h4⟩ := h
  exact ⟨h1, nb', ρ', Wrote.after hb h2, h3, h4⟩
theorem lastP_not {last : Int} {x : Pat} (h : x.kind ≠ 1) : lastP last x = last := by
  unfold lastP
  rw [if_neg (by simpa using h)]
end Go.Proofs.YtobgcaemnpkbmaaGreat
