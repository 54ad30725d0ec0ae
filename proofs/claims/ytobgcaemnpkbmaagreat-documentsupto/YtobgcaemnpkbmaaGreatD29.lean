/- Se -/
import Derived.Test.YtobgcaemnpkbmaaGreatD13
import Derived.Test.YtobgcaemnpkbmaaGreatD28
namespace Go.Proofs.YtobgcaemnpkbmaaGreat
open Go.RowKit
theorem attrCells_set (l : List (ByteArray × ByteArray)) (k : Nat) (v : ByteArray) (hk : k < l.length) : (attrCells l).set (k * 2 + 1) (.string v) = attrCells (l.set k (l[k].1, v)) := by
  induction l generalizing k with
  | nil => exact absurd hk (Nat.not_lt_zero _)
  | cons a l ih =>
    have e : attrCells (a :: l) = .string a.1 :: .string a.2 :: attrCells l := rfl
    cases k with
    | zero => rfl
    | succ k =>
      rw [e, show (k + 1) * 2 + 1 = k * 2 + 1 + 1 + 1 by omega, List.set_cons_succ, List.set_cons_succ, ih k (by simpa using hk)]
      rfl
theorem setP_hit {l : List (ByteArray × ByteArray)} {nm vl : ByteArray} (hs : Rises l) (hh : hitP l nm = true) (hp : posP l nm < l.length) : l.set (posP l nm) (l[posP l nm].1, vl) = setP l nm vl := by
  have hsm : l[posP l nm].1 = nm := by
    unfold hitP at hh
    rw [decide_eq_true hp, Bool.true_and, attAt_lt hp] at hh
    exact sameB_eq hh
  have hN : hitN l nm = 1 := by unfold hitN; rw [hh]; rfl
  rw [setP_pos hs, hN, hsm, List.set_eq_take_append_cons_drop, if_pos hp]
  simp
theorem setP_new {l : List (ByteArray × ByteArray)} {nm vl : ByteArray} (hs : Rises l) (hh : hitP l nm = false) :
    (attrCells (l.take (posP l nm) ++ [(nm, ⟨#[]⟩)] ++ l.drop (posP l nm))).set (posP l nm * 2 + 1) (.string vl) = attrCells (setP l nm vl) := by
  have hp := posP_le l nm
  have hN : hitN l nm = 0 := by unfold hitN; rw [hh]; rfl
  have hlt : (l.take (posP l nm)).length = posP l nm := by rw [List.length_take]; omega
  have hk : posP l nm < (l.take (posP l nm) ++ [(nm, (⟨#[]⟩ : ByteArray))] ++ l.drop (posP l nm)).length := by rw [List.length_append, List.length_append, hlt]; simp; omega
  rw [attrCells_set _ _ _ hk, setP_pos hs, hN]
  congr 1
  have e1 : (l.take (posP l nm) ++ [(nm, (⟨#[]⟩ : ByteArray))] ++ l.drop (posP l nm))[posP l nm] = (nm, ⟨#[]⟩) := by
    rw [List.getElem_append_left (by rw [List.length_append, hlt]; simp), List.getElem_append_right (by omega)]
    simp [hlt]
  rw [e1, List.set_append_left _ _ (by rw [List.length_append, hlt]; simp), List.set_append_right _ _ (by omega), hlt, Nat.sub_self]
  rfl
set_option maxHeartbeats 2000000 in
set_option maxRecDepth 100000 in
theorem set_none (ρ : Roles) (nb : Int → Nat) (mb : Nat) (rt : Option Nat) (w : World) (q : Nat) (R : List RN) (last : Int) (h : Dom ρ nb mb rt w q R last) (kd id pa bf ky : Int) (tg nm tx : ByteArray) (hid : I64 id) (hno : ∀ n, n ∈ R → n.id ≠ id) :
    Calls Tryz.prog 89 #[.pointer (some ⟨q, 0, none⟩), .agg #[.int .i64 kd, .int .i64 id, .int .i64 pa, .int .i64 bf, .int .i64 ky, .string tg, .string nm, .string tx]] w fun e w' => e = .returned (.bool false) ∧ Below w.heap.size w w' := by
  have d1 : w.cell? ⟨q, 1, none⟩ = some (.map (some mb)) := cell_of_blk h.blk 1 _ rfl
  have ltq := lt_of_blk h.blk
  have Hlk : Hid (∀ w1, Below w.heap.size w w1 → (Instr.lookup 111 (.map (some mb)) (.int .i64 id) false).run Tryz.prog w1 = .ok (.pointer none) w1) := hide fun w1 hb => by
    have := (h.below hb).map.look hid
    rw [blkOf_no hno] at this
    exact this
  clear h
  go_enter Tryz.func89, Tryz.ntmps89
  go_wp2_with fail
  generalize hw0 : w.alloc (.cells #[.int .i64 kd, .int .i64 id, .int .i64 pa, .int .i64 bf, .int .i64 ky, .string tg, .string nm, .string tx] 29) = w0
  have hb0 : Below w.heap.size w w0 := by rw [← hw0]; exact (Below.refl _ _).alloc (Nat.le_refl _) _
  have lt0 : w.heap.size < w0.heap.size := by rw [← hw0]; simp
  have x1 : w0.cell? ⟨w.heap.size, 1, none⟩ = some (.int .i64 id) := by rw [← hw0]; simp [go_sem]
  have y1 : w0.cell? ⟨q, 1, none⟩ = some (.map (some mb)) := (hb0.cell (p := ⟨q, 1, none⟩) ltq).trans d1
  have lk : ∀ n, (Instr.lookup 111 (.map (some mb)) (.int .i64 id) false).run Tryz.prog (w0.drewN n) = .ok (.pointer none) (w0.drewN n) := fun n => Hlk.out _ ⟨hb0.os, hb0.tape, hb0.output, hb0.size, hb0.block⟩
  have HB0 := hide hb0
  clear hw0 hb0 d1
  go_big_quiet (fail)
  go_wp2_with fail
  go_ret
  exact ⟨rfl, belowD HB0.out _⟩
set_option maxHeartbeats 2000000 in
set_option maxRecDepth 100000 in
theorem set_text (ρ : Roles) (nb : Int → Nat) (mb : Nat) (rt : Option Nat) (w : World) (q : Nat) (R : List RN) (last : Int) (h : Dom ρ nb mb rt w q R last) (kd id pa bf ky : Int) (tg nm tx : ByteArray) (k : Nat) (hk : k < R.length) (hid : I64 R[k].id) (hidk : R[k].id = id) (htag : R[k].tag.toList.isEmpty = true) :
    Calls Tryz.prog 89 #[.pointer (some ⟨q, 0, none⟩), .agg #[.int .i64 kd, .int .i64 id, .int .i64 pa, .int .i64 bf, .int .i64 ky, .string tg, .string nm, .string tx]] w fun e w' => e = .returned (.bool false) ∧ Below w.heap.size w w' := by
  subst hidk
  obtain ⟨av, kv, hP⟩ := h.node _ (List.getElem_mem hk)
  have d1 : w.cell? ⟨q, 1, none⟩ = some (.map (some mb)) := cell_of_blk h.blk 1 _ rfl
  have ltq := lt_of_blk h.blk
  have Hlk : Hid (∀ w1, Below w.heap.size w w1 → (Instr.lookup 111 (.map (some mb)) (.int .i64 R[k].id) false).run Tryz.prog w1 = .ok (.pointer (some ⟨nb R[k].id, 0, none⟩)) w1) := hide fun w1 hb => by
    have := (h.below hb).map.look hid
    rw [blkOf_yes (List.getElem_mem hk)] at this
    exact this
  have HEl : Hid (∀ w1, Below w.heap.size w w1 → Calls Tryz.prog 102 #[.pointer (some ⟨nb R[k].id, 0, none⟩)] w1 fun e w' => e = .returned (.bool false) ∧ w1 = w') := hide fun w1 hb => by
    have := isElem_any (hP.kept (R' := R) (w' := w1) (ρ' := ρ) (fun b j e => hb.block b (h.low b (by rw [e]; rfl))) (fun _ _ => rfl) rfl)
    rw [htag] at this
    exact this.mono fun _ _ h => ⟨h.1, h.2.symm⟩
  clear h hP
  go_enter Tryz.func89, Tryz.ntmps89
  go_wp2_with fail
  generalize hw0 : w.alloc (.cells #[.int .i64 kd, .int .i64 R[k].id, .int .i64 pa, .int .i64 bf, .int .i64 ky, .string tg, .string nm, .string tx] 29) = w0
  have hb0 : Below w.heap.size w w0 := by rw [← hw0]; exact (Below.refl _ _).alloc (Nat.le_refl _) _
  have lt0 : w.heap.size < w0.heap.size := by rw [← hw0]; simp
  have x1 : w0.cell? ⟨w.heap.size, 1, none⟩ = some (.int .i64 R[k].id) := by rw [← hw0]; simp [go_sem]
  have x6 : w0.cell? ⟨w.heap.size, 6, none⟩ = some (.string nm) := by rw [← hw0]; simp [go_sem]
  have x7 : w0.cell? ⟨w.heap.size, 7, none⟩ = some (.string tx) := by rw [← hw0]; simp [go_sem]
  have y1 : w0.cell? ⟨q, 1, none⟩ = some (.map (some mb)) := (hb0.cell (p := ⟨q, 1, none⟩) ltq).trans d1
  have lk : ∀ n, (Instr.lookup 111 (.map (some mb)) (.int .i64 R[k].id) false).run Tryz.prog (w0.drewN n) = .ok (.pointer (some ⟨nb R[k].id, 0, none⟩)) (w0.drewN n) := fun n => Hlk.out _ ⟨hb0.os, hb0.tape, hb0.output, hb0.size, hb0.block⟩
  have HB0 := hide hb0
  clear hw0 hb0 d1
  go_big_quiet (fail)
  go_wp2_with (first | (go_at_call 102; refine (unhide HEl _ (belowD (unhide HB0) _)).mono ?_; rintro e w1 ⟨rfl, rfl⟩))
  go_ret
  exact ⟨rfl, belowD HB0.out _⟩
set_option maxHeartbeats 2000000 in
set_option maxRecDepth 100000 in
theorem set_name (ρ : Roles) (nb : Int → Nat) (mb : Nat) (rt : Option Nat) (w : World) (q : Nat) (R : List RN) (last : Int) (h : Dom ρ nb mb rt w q R last) (kd id pa bf ky : Int) (tg nm tx : ByteArray) (k : Nat) (hk : k < R.length) (hid : I64 R[k].id) (hidk : R[k].id = id) (htag : R[k].tag.toList.isEmpty = false) (hns : nm.size ≤ maxLen) (hnm : nameB nm = false) :
    Calls Tryz.prog 89 #[.pointer (some ⟨q, 0, none⟩), .agg #[.int .i64 kd, .int .i64 id, .int .i64 pa, .int .i64 bf, .int .i64 ky, .string tg, .string nm, .string tx]] w fun e w' => e = .returned (.bool false) ∧ Below w.heap.size w w' := by
  subst hidk
  obtain ⟨av, kv, hP⟩ := h.node _ (List.getElem_mem hk)
  have d1 : w.cell? ⟨q, 1, none⟩ = some (.map (some mb)) := cell_of_blk h.blk 1 _ rfl
  have ltq := lt_of_blk h.blk
  have Hlk : Hid (∀ w1, Below w.heap.size w w1 → (Instr.lookup 111 (.map (some mb)) (.int .i64 R[k].id) false).run Tryz.prog w1 = .ok (.pointer (some ⟨nb R[k].id, 0, none⟩)) w1) := hide fun w1 hb => by
    have := (h.below hb).map.look hid
    rw [blkOf_yes (List.getElem_mem hk)] at this
    exact this
  have HEl : Hid (∀ w1, Below w.heap.size w w1 → Calls Tryz.prog 102 #[.pointer (some ⟨nb R[k].id, 0, none⟩)] w1 fun e w' => e = .returned (.bool true) ∧ w1 = w') := hide fun w1 hb => by
    have := isElem_any (hP.kept (R' := R) (w' := w1) (ρ' := ρ) (fun b j e => hb.block b (h.low b (by rw [e]; rfl))) (fun _ _ => rfl) rfl)
    rw [htag] at this
    exact this.mono fun _ _ h => ⟨h.1, h.2.symm⟩
  have HNm : Hid (∀ w1, Calls Tryz.prog 97 #[.string nm] w1 fun e w' => e = .returned (.bool false) ∧ w1 = w') := hide fun w1 => (isName_is nm _ hnm hns w1).mono fun _ _ h => ⟨h.1, h.2.symm⟩
  clear h hP
  go_enter Tryz.func89, Tryz.ntmps89
  go_wp2_with fail
  generalize hw0 : w.alloc (.cells #[.int .i64 kd, .int .i64 R[k].id, .int .i64 pa, .int .i64 bf, .int .i64 ky, .string tg, .string nm, .string tx] 29) = w0
  have hb0 : Below w.heap.size w w0 := by rw [← hw0]; exact (Below.refl _ _).alloc (Nat.le_refl _) _
  have lt0 : w.heap.size < w0.heap.size := by rw [← hw0]; simp
  have x1 : w0.cell? ⟨w.heap.size, 1, none⟩ = some (.int .i64 R[k].id) := by rw [← hw0]; simp [go_sem]
  have x6 : w0.cell? ⟨w.heap.size, 6, none⟩ = some (.string nm) := by rw [← hw0]; simp [go_sem]
  have x7 : w0.cell? ⟨w.heap.size, 7, none⟩ = some (.string tx) := by rw [← hw0]; simp [go_sem]
  have y1 : w0.cell? ⟨q, 1, none⟩ = some (.map (some mb)) := (hb0.cell (p := ⟨q, 1, none⟩) ltq).trans d1
  have lk : ∀ n, (Instr.lookup 111 (.map (some mb)) (.int .i64 R[k].id) false).run Tryz.prog (w0.drewN n) = .ok (.pointer (some ⟨nb R[k].id, 0, none⟩)) (w0.drewN n) := fun n => Hlk.out _ ⟨hb0.os, hb0.tape, hb0.output, hb0.size, hb0.block⟩
  have HB0 := hide hb0
  clear hw0 hb0 d1
  go_big_quiet (fail)
  go_wp2_with (first | (go_at_call 102; refine (unhide HEl _ (belowD (unhide HB0) _)).mono ?_; rintro e w1 ⟨rfl, rfl⟩) | (go_at_call 97; refine (unhide HNm _).mono ?_; rintro e w1 ⟨rfl, rfl⟩))
  go_ret
  exact ⟨rfl, belowD HB0.out _⟩
set_option maxHeartbeats 2000000 in
set_option maxRecDepth 100000 in
theorem set_long (ρ : Roles) (nb : Int → Nat) (mb : Nat) (rt : Option Nat) (w : World) (q : Nat) (R : List RN) (last : Int) (h : Dom ρ nb mb rt w q R last) (kd id pa bf ky : Int) (tg nm tx : ByteArray) (k : Nat) (hk : k < R.length) (hid : I64 R[k].id) (hidk : R[k].id = id) (htag : R[k].tag.toList.isEmpty = false) (hns : nm.size ≤ maxLen) (hnm : nameB nm = true) (hts : tx.size ≤ maxLen) (htx : textB tx = false) :
    Calls Tryz.prog 89 #[.pointer (some ⟨q, 0, none⟩), .agg #[.int .i64 kd, .int .i64 id, .int .i64 pa, .int .i64 bf, .int .i64 ky, .string tg, .string nm, .string tx]] w fun e w' => e = .returned (.bool false) ∧ Below w.heap.size w w' := by
  subst hidk
  obtain ⟨av, kv, hP⟩ := h.node _ (List.getElem_mem hk)
  have d1 : w.cell? ⟨q, 1, none⟩ = some (.map (some mb)) := cell_of_blk h.blk 1 _ rfl
  have ltq := lt_of_blk h.blk
  have Hlk : Hid (∀ w1, Below w.heap.size w w1 → (Instr.lookup 111 (.map (some mb)) (.int .i64 R[k].id) false).run Tryz.prog w1 = .ok (.pointer (some ⟨nb R[k].id, 0, none⟩)) w1) := hide fun w1 hb => by
    have := (h.below hb).map.look hid
    rw [blkOf_yes (List.getElem_mem hk)] at this
    exact this
  have HEl : Hid (∀ w1, Below w.heap.size w w1 → Calls Tryz.prog 102 #[.pointer (some ⟨nb R[k].id, 0, none⟩)] w1 fun e w' => e = .returned (.bool true) ∧ w1 = w') := hide fun w1 hb => by
    have := isElem_any (hP.kept (R' := R) (w' := w1) (ρ' := ρ) (fun b j e => hb.block b (h.low b (by rw [e]; rfl))) (fun _ _ => rfl) rfl)
    rw [htag] at this
    exact this.mono fun _ _ h => ⟨h.1, h.2.symm⟩
  have HNm : Hid (∀ w1, Calls Tryz.prog 97 #[.string nm] w1 fun e w' => e = .returned (.bool true) ∧ w1 = w') := hide fun w1 => (isName_is nm _ hnm hns w1).mono fun _ _ h => ⟨h.1, h.2.symm⟩
  have HTx : Hid (∀ w1, Calls Tryz.prog 99 #[.string tx] w1 fun e w' => e = .returned (.bool false) ∧ w1 = w') := hide fun w1 => (isText_is tx _ htx hts w1).mono fun _ _ h => ⟨h.1, h.2.symm⟩
  clear h hP
  go_enter Tryz.func89, Tryz.ntmps89
  go_wp2_with fail
  generalize hw0 : w.alloc (.cells #[.int .i64 kd, .int .i64 R[k].id, .int .i64 pa, .int .i64 bf, .int .i64 ky, .string tg, .string nm, .string tx] 29) = w0
  have hb0 : Below w.heap.size w w0 := by rw [← hw0]; exact (Below.refl _ _).alloc (Nat.le_refl _) _
  have lt0 : w.heap.size < w0.heap.size := by rw [← hw0]; simp
  have x1 : w0.cell? ⟨w.heap.size, 1, none⟩ = some (.int .i64 R[k].id) := by rw [← hw0]; simp [go_sem]
  have x6 : w0.cell? ⟨w.heap.size, 6, none⟩ = some (.string nm) := by rw [← hw0]; simp [go_sem]
  have x7 : w0.cell? ⟨w.heap.size, 7, none⟩ = some (.string tx) := by rw [← hw0]; simp [go_sem]
  have y1 : w0.cell? ⟨q, 1, none⟩ = some (.map (some mb)) := (hb0.cell (p := ⟨q, 1, none⟩) ltq).trans d1
  have lk : ∀ n, (Instr.lookup 111 (.map (some mb)) (.int .i64 R[k].id) false).run Tryz.prog (w0.drewN n) = .ok (.pointer (some ⟨nb R[k].id, 0, none⟩)) (w0.drewN n) := fun n => Hlk.out _ ⟨hb0.os, hb0.tape, hb0.output, hb0.size, hb0.block⟩
  have HB0 := hide hb0
  clear hw0 hb0 d1
  go_big_quiet (fail)
  go_wp2_with (first | (go_at_call 102; refine (unhide HEl _ (belowD (unhide HB0) _)).mono ?_; rintro e w1 ⟨rfl, rfl⟩) | (go_at_call 97; refine (unhide HNm _).mono ?_; rintro e w1 ⟨rfl, rfl⟩) | (go_at_call 99; refine (unhide HTx _).mono ?_; rintro e w1 ⟨rfl, rfl⟩))
  go_ret
  exact ⟨rfl, belowD HB0.out _⟩
set_option maxHeartbeats 2000000 in
set_option maxRecDepth 100000 in
theorem set_full (ρ : Roles) (nb : Int → Nat) (mb : Nat) (rt : Option Nat) (w : World) (q : Nat) (R : List RN) (last : Int) (h : Dom ρ nb mb rt w q R last) (kd id pa bf ky : Int) (tg nm tx : ByteArray) (k : Nat) (hk : k < R.length) (hid : I64 R[k].id) (hidk : R[k].id = id) (htag : R[k].tag.toList.isEmpty = false) (hns : nm.size ≤ maxLen) (hnm : nameB nm = true) (hts : tx.size ≤ maxLen) (htx : textB tx = true) (hhit : hitP R[k].ats nm = false) (h5 : 5 ≤ R[k].ats.length) :
    Calls Tryz.prog 89 #[.pointer (some ⟨q, 0, none⟩), .agg #[.int .i64 kd, .int .i64 id, .int .i64 pa, .int .i64 bf, .int .i64 ky, .string tg, .string nm, .string tx]] w fun e w' => e = .returned (.bool false) ∧ Below w.heap.size w w' := by
  subst hidk
  obtain ⟨av, kv, hP⟩ := h.node _ (List.getElem_mem hk)
  have d1 : w.cell? ⟨q, 1, none⟩ = some (.map (some mb)) := cell_of_blk h.blk 1 _ rfl
  have ltq := lt_of_blk h.blk
  have Hlk : Hid (∀ w1, Below w.heap.size w w1 → (Instr.lookup 111 (.map (some mb)) (.int .i64 R[k].id) false).run Tryz.prog w1 = .ok (.pointer (some ⟨nb R[k].id, 0, none⟩)) w1) := hide fun w1 hb => by
    have := (h.below hb).map.look hid
    rw [blkOf_yes (List.getElem_mem hk)] at this
    exact this
  have HEl : Hid (∀ w1, Below w.heap.size w w1 → Calls Tryz.prog 102 #[.pointer (some ⟨nb R[k].id, 0, none⟩)] w1 fun e w' => e = .returned (.bool true) ∧ w1 = w') := hide fun w1 hb => by
    have := isElem_any (hP.kept (R' := R) (w' := w1) (ρ' := ρ) (fun b j e => hb.block b (h.low b (by rw [e]; rfl))) (fun _ _ => rfl) rfl)
    rw [htag] at this
    exact this.mono fun _ _ h => ⟨h.1, h.2.symm⟩
  have HNm : Hid (∀ w1, Calls Tryz.prog 97 #[.string nm] w1 fun e w' => e = .returned (.bool true) ∧ w1 = w') := hide fun w1 => (isName_is nm _ hnm hns w1).mono fun _ _ h => ⟨h.1, h.2.symm⟩
  have HTx : Hid (∀ w1, Calls Tryz.prog 99 #[.string tx] w1 fun e w' => e = .returned (.bool true) ∧ w1 = w') := hide fun w1 => (isText_is tx _ htx hts w1).mono fun _ _ h => ⟨h.1, h.2.symm⟩
  have HFd : Hid (∀ w1, Below w.heap.size w w1 → Calls Tryz.prog 106 #[.pointer (some ⟨nb R[k].id, 0, none⟩), .string nm] w1 fun e w' => e = .returned (.tuple #[.int .i64 (posP R[k].ats nm), .bool false]) ∧ Below w1.heap.size w1 w') := hide fun w1 hb => by
    have := find_any (hP.kept (R' := R) (w' := w1) (ρ' := ρ) (fun b j e => hb.block b (h.low b (by rw [e]; rfl))) (fun _ _ => rfl) rfl) nm
    rw [hhit] at this
    exact this
  obtain ⟨ao, c, rfl⟩ := own_shape hP.arow
  have c4 : w.cell? ⟨nb R[k].id, 4, none⟩ = some (.slice ao R[k].ats.length c) := cell_of_blk hP.blk 4 _ rfl
  have ltK := hP.lt
  have h5' : (5 : Int) ≤ (R[k].ats.length : Int) := by omega
  clear h hP
  go_enter Tryz.func89, Tryz.ntmps89
  go_wp2_with fail
  generalize hw0 : w.alloc (.cells #[.int .i64 kd, .int .i64 R[k].id, .int .i64 pa, .int .i64 bf, .int .i64 ky, .string tg, .string nm, .string tx] 29) = w0
  have hb0 : Below w.heap.size w w0 := by rw [← hw0]; exact (Below.refl _ _).alloc (Nat.le_refl _) _
  have lt0 : w.heap.size < w0.heap.size := by rw [← hw0]; simp
  have x1 : w0.cell? ⟨w.heap.size, 1, none⟩ = some (.int .i64 R[k].id) := by rw [← hw0]; simp [go_sem]
  have x6 : w0.cell? ⟨w.heap.size, 6, none⟩ = some (.string nm) := by rw [← hw0]; simp [go_sem]
  have x7 : w0.cell? ⟨w.heap.size, 7, none⟩ = some (.string tx) := by rw [← hw0]; simp [go_sem]
  have y1 : w0.cell? ⟨q, 1, none⟩ = some (.map (some mb)) := (hb0.cell (p := ⟨q, 1, none⟩) ltq).trans d1
  have lk : ∀ n, (Instr.lookup 111 (.map (some mb)) (.int .i64 R[k].id) false).run Tryz.prog (w0.drewN n) = .ok (.pointer (some ⟨nb R[k].id, 0, none⟩)) (w0.drewN n) := fun n => Hlk.out _ ⟨hb0.os, hb0.tape, hb0.output, hb0.size, hb0.block⟩
  have HB0 := hide hb0
  clear hw0 hb0 d1
  go_big_quiet (fail)
  go_wp2_with (first | (go_at_call 102; refine (unhide HEl _ (belowD (unhide HB0) _)).mono ?_; rintro e w1 ⟨rfl, rfl⟩) | (go_at_call 97; refine (unhide HNm _).mono ?_; rintro e w1 ⟨rfl, rfl⟩) | (go_at_call 99; refine (unhide HTx _).mono ?_; rintro e w1 ⟨rfl, rfl⟩) | (go_at_call 106; refine (unhide HFd _ (belowD (unhide HB0) _)).mono ?_; rintro e w1 ⟨rfl, hb1⟩; have z6 := (hb1.cell (p := ⟨w.heap.size, 6, none⟩) lt0).trans x6; have z7 := (hb1.cell (p := ⟨w.heap.size, 7, none⟩) lt0).trans x7; have ls1 := hb1.size; have lt1 : w.heap.size < w1.heap.size := Nat.lt_of_lt_of_le lt0 ls1; have HB1 := hide ((belowD (unhide HB0) _).trans (hb1.mono (unhide HB0).size)); have p4 := ((unhide HB1).cell (p := ⟨nb R[k].id, 4, none⟩) ltK).trans c4; clear hb1))
  go_ret
  exact ⟨rfl, HB1.out⟩
set_option maxHeartbeats 2000000 in
set_option maxRecDepth 100000 in
theorem set_hit (ρ : Roles) (nb : Int → Nat) (mb : Nat) (rt : Option Nat) (w : World) (q : Nat) (R : List RN) (last : Int) (h : Dom ρ nb mb rt w q R last) (kd id pa bf ky : Int) (tg nm tx : ByteArray) (k : Nat) (hk : k < R.length) (hid : I64 R[k].id) (hidk : R[k].id = id) (hI : Ids R) (htag : R[k].tag.toList.isEmpty = false) (hns : nm.size ≤ maxLen) (hnm : nameB nm = true) (hts : tx.size ≤ maxLen) (htx : textB tx = true) (hsz : tx.size ≤ 281474976710656) (hhit : hitP R[k].ats nm = true) :
    Calls Tryz.prog 89 #[.pointer (some ⟨q, 0, none⟩), .agg #[.int .i64 kd, .int .i64 id, .int .i64 pa, .int .i64 bf, .int .i64 ky, .string tg, .string nm, .string tx]] w fun e w' => e = .returned (.bool true) ∧ ∃ ρ', Wrote ρ ρ' w w' ∧ Dom ρ' nb mb rt w' q (R.set k { R[k] with ats := setP R[k].ats nm tx }) last := by
  subst hidk
  obtain ⟨av, kv, hP⟩ := h.node _ (List.getElem_mem hk)
  have d1 : w.cell? ⟨q, 1, none⟩ = some (.map (some mb)) := cell_of_blk h.blk 1 _ rfl
  have ltq := lt_of_blk h.blk
  have Hlk : Hid (∀ w1, Below w.heap.size w w1 → (Instr.lookup 111 (.map (some mb)) (.int .i64 R[k].id) false).run Tryz.prog w1 = .ok (.pointer (some ⟨nb R[k].id, 0, none⟩)) w1) := hide fun w1 hb => by
    have := (h.below hb).map.look hid
    rw [blkOf_yes (List.getElem_mem hk)] at this
    exact this
  have HEl : Hid (∀ w1, Below w.heap.size w w1 → Calls Tryz.prog 102 #[.pointer (some ⟨nb R[k].id, 0, none⟩)] w1 fun e w' => e = .returned (.bool true) ∧ w1 = w') := hide fun w1 hb => by
    have := isElem_any (hP.kept (R' := R) (w' := w1) (ρ' := ρ) (fun b j e => hb.block b (h.low b (by rw [e]; rfl))) (fun _ _ => rfl) rfl)
    rw [htag] at this
    exact this.mono fun _ _ h => ⟨h.1, h.2.symm⟩
  have HNm : Hid (∀ w1, Calls Tryz.prog 97 #[.string nm] w1 fun e w' => e = .returned (.bool true) ∧ w1 = w') := hide fun w1 => (isName_is nm _ hnm hns w1).mono fun _ _ h => ⟨h.1, h.2.symm⟩
  have HTx : Hid (∀ w1, Calls Tryz.prog 99 #[.string tx] w1 fun e w' => e = .returned (.bool true) ∧ w1 = w') := hide fun w1 => (isText_is tx _ htx hts w1).mono fun _ _ h => ⟨h.1, h.2.symm⟩
  have HFd : Hid (∀ w1, Below w.heap.size w w1 → Calls Tryz.prog 106 #[.pointer (some ⟨nb R[k].id, 0, none⟩), .string nm] w1 fun e w' => e = .returned (.tuple #[.int .i64 (posP R[k].ats nm), .bool true]) ∧ Below w1.heap.size w1 w') := hide fun w1 hb => by
    have := find_any (hP.kept (R' := R) (w' := w1) (ρ' := ρ) (fun b j e => hb.block b (h.low b (by rw [e]; rfl))) (fun _ _ => rfl) rfl) nm
    rw [hhit] at this
    exact this
  have hposn : posP R[k].ats nm < R[k].ats.length := by
    unfold hitP at hhit
    simp only [Bool.and_eq_true, decide_eq_true_eq] at hhit
    exact hhit.1
  obtain ⟨g, c, rfl⟩ : ∃ g c, av = .slice (some ⟨g, 0, none⟩) R[k].ats.length c := by
    rcases hP.arow.2 with ⟨_, e⟩ | ⟨g, cap, cur, e, _⟩
    · omega
    · exact ⟨g, cap, e⟩
  have hfew := hP.few
  have c4 : w.cell? ⟨nb R[k].id, 4, none⟩ = some (.slice (some ⟨g, 0, none⟩) R[k].ats.length c) := cell_of_blk hP.blk 4 _ rfl
  have ltK := hP.lt
  have hgK : g ≠ nb R[k].id := fun e => by
    have := hP.arole g rfl
    rw [e, hP.role] at this
    have := (Prod.mk.inj (Option.some.inj this)).2
    omega
  have hgl : g < w.heap.size := (hP.arow.lt g rfl).2
  obtain ⟨ov, cv⟩ : ∃ ov, w.cell? ⟨g, posP R[k].ats nm * 2 + 1, none⟩ = some ov := by
    rw [hP.arow.cellAt _ (by omega)]
    exact ⟨_, List.getElem?_eq_getElem (by rw [attrCells_length]; omega)⟩
  have fv := hP.arow.frozenAt (posP R[k].ats nm * 2 + 1)
  have HOw : Hid (∀ w1, Calls Tryz.prog 63 #[.string tx] w1 fun e w' => e = .returned (.string tx) ∧ Below w1.heap.size w1 w') := hide fun w1 => own_any tx w1 hsz
  have HD := hide h
  have HP := hide hP
  have hp1 : (0 : Int) ≤ (posP R[k].ats nm : Int) := by omega
  have hp2 : (posP R[k].ats nm : Int) < (R[k].ats.length : Int) := by omega
  clear h hP
  go_enter Tryz.func89, Tryz.ntmps89
  go_wp2_with fail
  generalize hw0 : w.alloc (.cells #[.int .i64 kd, .int .i64 R[k].id, .int .i64 pa, .int .i64 bf, .int .i64 ky, .string tg, .string nm, .string tx] 29) = w0
  have hb0 : Below w.heap.size w w0 := by rw [← hw0]; exact (Below.refl _ _).alloc (Nat.le_refl _) _
  have lt0 : w.heap.size < w0.heap.size := by rw [← hw0]; simp
  have x1 : w0.cell? ⟨w.heap.size, 1, none⟩ = some (.int .i64 R[k].id) := by rw [← hw0]; simp [go_sem]
  have x6 : w0.cell? ⟨w.heap.size, 6, none⟩ = some (.string nm) := by rw [← hw0]; simp [go_sem]
  have x7 : w0.cell? ⟨w.heap.size, 7, none⟩ = some (.string tx) := by rw [← hw0]; simp [go_sem]
  have y1 : w0.cell? ⟨q, 1, none⟩ = some (.map (some mb)) := (hb0.cell (p := ⟨q, 1, none⟩) ltq).trans d1
  have lk : ∀ n, (Instr.lookup 111 (.map (some mb)) (.int .i64 R[k].id) false).run Tryz.prog (w0.drewN n) = .ok (.pointer (some ⟨nb R[k].id, 0, none⟩)) (w0.drewN n) := fun n => Hlk.out _ ⟨hb0.os, hb0.tape, hb0.output, hb0.size, hb0.block⟩
  have HB0 := hide hb0
  clear hw0 hb0 d1
  go_big_quiet (fail)
  go_wp2_with (first | (go_at_call 102; refine (unhide HEl _ (belowD (unhide HB0) _)).mono ?_; rintro e w1 ⟨rfl, rfl⟩) | (go_at_call 97; refine (unhide HNm _).mono ?_; rintro e w1 ⟨rfl, rfl⟩) | (go_at_call 99; refine (unhide HTx _).mono ?_; rintro e w1 ⟨rfl, rfl⟩) | (go_at_call 106; refine (unhide HFd _ (belowD (unhide HB0) _)).mono ?_; rintro e w1 ⟨rfl, hb1⟩; have z6 := (hb1.cell (p := ⟨w.heap.size, 6, none⟩) lt0).trans x6; have z7 := (hb1.cell (p := ⟨w.heap.size, 7, none⟩) lt0).trans x7; have ls1 := hb1.size; have lt1 : w.heap.size < w1.heap.size := Nat.lt_of_lt_of_le lt0 ls1; have HB1 := hide ((belowD (unhide HB0) _).trans (hb1.mono (unhide HB0).size)); have p4 := ((unhide HB1).cell (p := ⟨nb R[k].id, 4, none⟩) ltK).trans c4; clear hb1))
  have lK1 : nb R[k].id < w1.heap.size := by omega
  have lg1 : g < w1.heap.size := by omega
  have pv := (HB1.out.cell (p := ⟨g, posP R[k].ats nm * 2 + 1, none⟩) hgl).trans cv
  have qv := (HB1.out.frozen (p := ⟨g, posP R[k].ats nm * 2 + 1, none⟩) hgl).trans fv
  have n1 : nb R[k].id ≠ g := fun e => hgK e.symm
  have n2 : w.heap.size ≠ g := by omega
  have n3 : g ≠ w.heap.size := by omega
  clear z6
  go_region_held3 (fun w' => w'.frozen? ⟨g, posP R[k].ats nm * 2 + 1, none⟩ = false ∧ w'.cell? ⟨nb R[k].id, 4, none⟩ = some (.slice (some ⟨g, 0, none⟩) R[k].ats.length c) ∧ w'.cell? ⟨w.heap.size, 7, none⟩ = some (.string tx))
    (first
      | go_keep
      | (go_split_ands
         refine ⟨?_, ?_, ?_⟩
         · (rw [hb6.frozen (by simp; omega)]; assumption)
         · (rw [hb6.cell (by simp; omega)]; assumption)
         · (rw [hb6.cell (by simp; omega)]; assumption))
      | (go_split_ands
         refine ⟨?_, ?_, ?_⟩
         · (rw [World.frozen?_setCell]; assumption)
         · (first | (rw [World.cell?_of_block (Below.heap_setCell _ _ _ _ n1)]; assumption) | go_keep)
         · (first | (rw [World.cell?_of_block (Below.heap_setCell _ _ _ _ n2)]; assumption) | go_keep)))
    ((go_at_call 63; refine (unhide HOw _).mono ?_; rintro e w2 ⟨rfl, hb6⟩; have f6 := (hb6.cell (p := ⟨g, posP R[k].ats nm * 2 + 1, none⟩) (by simp; omega)).trans pv))
  go_wp2_with fail
  go_ret
  have HB3 := hide (HB1.out.trans (((Below.refl w1.heap.size w1).drew.trans hb6).mono HB1.out.size))
  refine ⟨rfl, ρ, ⟨⟨HB3.out.os, HB3.out.tape, HB3.out.output, by rw [size_setCell']; exact HB3.out.size, fun b hb hn => ?_⟩, fun _ _ => rfl, fun _ h => .inl h⟩, ?_⟩
  · exact (Below.heap_setCell _ _ _ _ (fun e => hn (by rw [e]; show (ρ g).isSome = true; rw [HP.out.arole g rfl]; rfl))).trans (HB3.out.block b hb)
  · have hold : ∀ b r, ρ b = some r → r ≠ (R[k].id, 1) → (w2.setCell ⟨g, posP R[k].ats nm * 2 + 1, none⟩ (.string tx)).heap[b]? = w.heap[b]? := fun b r e hr => by
      refine (Below.heap_setCell _ _ _ _ (fun x => hr ?_)).trans (HB3.out.block b (HD.out.low b (by rw [e]; rfl)))
      have x : b = g := x
      rw [x, HP.out.arole g rfl] at e
      exact (Option.some.inj e).symm
    have hst := ((ownsRow_below HP.out.arow HB3.out).stored (posP R[k].ats nm * 2 + 1) (.string tx)).1
    rw [attrCells_set _ _ _ hposn, setP_hit HP.out.rise hhit hposn] at hst
    have hlen : (setP R[k].ats nm tx).length = R[k].ats.length := by rw [← setP_hit HP.out.rise hhit hposn, List.length_set]
    refine Dom.put (n' := { R[k] with ats := setP R[k].ats nm tx }) (av' := .slice (some ⟨g, 0, none⟩) R[k].ats.length c) (kv' := kv) HD.out hI hk rfl rfl (fun _ _ => rfl) (fun b e => by rw [size_setCell']; exact Nat.lt_of_lt_of_le (HD.out.low b e) HB3.out.size) (fun b r e hr => hold b r e (fun x => hr (by rw [x]))) ⟨?_, HP.out.role, ?_, HP.out.arole, ?_, HP.out.krole, ?_, rises_set HP.out.rise, HP.out.tag, HP.out.text, fun x hx => (setP_mem hx).elim (HP.out.size x) (fun e => by rw [e]; exact ⟨hns, hts⟩)⟩
    · exact (hold _ _ HP.out.role (fun x => by have := (Prod.mk.inj x).2; omega)).trans HP.out.blk
    · show World.ownsRow _ _ _ _ _ (setP R[k].ats nm tx).length _
      rw [hlen]
      exact hst
    · exact own_heap HP.out.krow fun b e => hold b _ (HP.out.krole b e) (fun x => by have := (Prod.mk.inj x).2; omega)
    · show (setP R[k].ats nm tx).length ≤ 5
      omega
end Go.Proofs.YtobgcaemnpkbmaaGreat
