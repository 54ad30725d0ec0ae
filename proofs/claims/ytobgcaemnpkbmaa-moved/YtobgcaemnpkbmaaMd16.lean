/- Rm2 Nd Seq -/
import Derived.Test.YtobgcaemnpkbmaaMd15
import Derived.Handy
import Derived.Laws.StructEq
import Derived.ChangeKeysEq
namespace Go.Proofs.Ytobgcaemnpkbmaa
open Go.RowKit
set_option maxHeartbeats 2000000 in
set_option maxRecDepth 100000 in
theorem prem_none (ρ : Roles) (nb : Int → Nat) (mb : Nat) (w : World) (q : Nat) (R : List RN) (last : Int) (h : Dom ρ nb mb (some (nb 1)) w q R last) (kd id pa bf ky : Int) (tg nm tx : ByteArray) (hid : I64 id) (hno : ∀ n, n ∈ R → n.id ≠ id) :
    Calls Try.prog 52 #[.pointer (some ⟨q, 0, none⟩), .agg #[.int .i64 kd, .int .i64 id, .int .i64 pa, .int .i64 bf, .int .i64 ky, .string tg, .string nm, .string tx]] w fun e w' => e = .returned (.bool false) ∧ Below w.heap.size w w' := by
  have d1 : w.cell? ⟨q, 1, none⟩ = some (.map (some mb)) := cell_of_blk h.blk 1 _ rfl
  have ltq := lt_of_blk h.blk
  have d0 : w.cell? ⟨q, 0, none⟩ = some (.pointer (some ⟨nb 1, 0, none⟩)) := cell_of_blk h.blk 0 _ rfl
  have HLn : Hid (∀ w1, Below w.heap.size w w1 → (Instr.lookup 68 (.map (some mb)) (.int .i64 id) false).run Try.prog w1 = .ok (.pointer none) w1) := hide fun w1 hb => by
    have := (h.below hb).map.look hid
    rw [blkOf_no hno] at this
    exact this
  clear h
  go_enter Try.func52, Try.ntmps52
  go_wp2_with fail
  generalize hw0 : (w.alloc (.cells #[.pointer (some ⟨q, 0, none⟩)] 61)).alloc (.cells #[.int .i64 kd, .int .i64 id, .int .i64 pa, .int .i64 bf, .int .i64 ky, .string tg, .string nm, .string tx] 43) = w0
  have hb0 : Below w.heap.size w w0 := by rw [← hw0]; exact ((Below.refl _ _).alloc (Nat.le_refl _) _).alloc (by simp) _
  have lt0 : w.heap.size + 1 < w0.heap.size := by rw [← hw0]; simp
  have x0 : w0.cell? ⟨w.heap.size, 0, none⟩ = some (.pointer (some ⟨q, 0, none⟩)) := by rw [← hw0]; simp [go_sem]
  have x1 : w0.cell? ⟨w.heap.size + 1, 1, none⟩ = some (.int .i64 id) := by rw [← hw0]; simp [go_sem]
  have y1 : w0.cell? ⟨q, 1, none⟩ = some (.map (some mb)) := (hb0.cell (p := ⟨q, 1, none⟩) ltq).trans d1
  have y0 : w0.cell? ⟨q, 0, none⟩ = some (.pointer (some ⟨nb 1, 0, none⟩)) := (hb0.cell (p := ⟨q, 0, none⟩) ltq).trans d0
  have hln : ∀ n, (Instr.lookup 68 (.map (some mb)) (.int .i64 id) false).run Try.prog (w0.drewN n) = .ok (.pointer none) (w0.drewN n) := fun n => HLn.out _ ⟨hb0.os, hb0.tape, hb0.output, hb0.size, hb0.block⟩
  have HB0 := hide hb0
  clear hw0 hb0 d1 d0
  go_big_quiet (fail)
  go_wp2_with fail
  go_ret
  exact ⟨rfl, belowD HB0.out _⟩
set_option maxHeartbeats 2000000 in
set_option maxRecDepth 100000 in
theorem prem_root (ρ : Roles) (nb : Int → Nat) (mb : Nat) (w : World) (q : Nat) (R : List RN) (last : Int) (h : Dom ρ nb mb (some (nb 1)) w q R last) (kd pa bf ky : Int) (tg nm tx : ByteArray) (r : Nat) (hr : r < R.length) (hr1 : R[r].id = 1) :
    Calls Try.prog 52 #[.pointer (some ⟨q, 0, none⟩), .agg #[.int .i64 kd, .int .i64 1, .int .i64 pa, .int .i64 bf, .int .i64 ky, .string tg, .string nm, .string tx]] w fun e w' => e = .returned (.bool false) ∧ Below w.heap.size w w' := by
  have d1 : w.cell? ⟨q, 1, none⟩ = some (.map (some mb)) := cell_of_blk h.blk 1 _ rfl
  have ltq := lt_of_blk h.blk
  have d0 : w.cell? ⟨q, 0, none⟩ = some (.pointer (some ⟨nb 1, 0, none⟩)) := cell_of_blk h.blk 0 _ rfl
  obtain ⟨avr, kvr, hPr⟩ := h.node _ (List.getElem_mem hr)
  have HEr : Hid (∀ w1, Below w.heap.size w w1 → (binOp .eql 69 (.pointer (some ⟨nb 1, 0, none⟩)) (.pointer (some ⟨nb 1, 0, none⟩))).run Try.prog w1 = .ok (.bool true) w1) := hide fun w1 hb => by
    have h2 : Plain w1 (nb 1) := by rw [← hr1]; exact ⟨_, _, (hb.block _ hPr.lt).trans hPr.blk⟩
    rw [run_eql_ptr h2 h2, beq_self_eq_true]
  have HLn : Hid (∀ w1, Below w.heap.size w w1 → (Instr.lookup 68 (.map (some mb)) (.int .i64 1) false).run Try.prog w1 = .ok (.pointer (some ⟨nb 1, 0, none⟩)) w1) := hide fun w1 hb => by
    have := (h.below hb).map.look (i := 1) ⟨by decide, by decide⟩
    rw [← hr1, blkOf_yes (List.getElem_mem hr), hr1] at this
    exact this
  clear h hPr hr1
  go_enter Try.func52, Try.ntmps52
  go_wp2_with fail
  generalize hw0 : (w.alloc (.cells #[.pointer (some ⟨q, 0, none⟩)] 61)).alloc (.cells #[.int .i64 kd, .int .i64 1, .int .i64 pa, .int .i64 bf, .int .i64 ky, .string tg, .string nm, .string tx] 43) = w0
  have hb0 : Below w.heap.size w w0 := by rw [← hw0]; exact ((Below.refl _ _).alloc (Nat.le_refl _) _).alloc (by simp) _
  have lt0 : w.heap.size + 1 < w0.heap.size := by rw [← hw0]; simp
  have x0 : w0.cell? ⟨w.heap.size, 0, none⟩ = some (.pointer (some ⟨q, 0, none⟩)) := by rw [← hw0]; simp [go_sem]
  have x1 : w0.cell? ⟨w.heap.size + 1, 1, none⟩ = some (.int .i64 1) := by rw [← hw0]; simp [go_sem]
  have y1 : w0.cell? ⟨q, 1, none⟩ = some (.map (some mb)) := (hb0.cell (p := ⟨q, 1, none⟩) ltq).trans d1
  have y0 : w0.cell? ⟨q, 0, none⟩ = some (.pointer (some ⟨nb 1, 0, none⟩)) := (hb0.cell (p := ⟨q, 0, none⟩) ltq).trans d0
  have hln : ∀ n, (Instr.lookup 68 (.map (some mb)) (.int .i64 1) false).run Try.prog (w0.drewN n) = .ok (.pointer (some ⟨nb 1, 0, none⟩)) (w0.drewN n) := fun n => HLn.out _ ⟨hb0.os, hb0.tape, hb0.output, hb0.size, hb0.block⟩
  have heqr : ∀ n, (binOp .eql 69 (.pointer (some ⟨nb 1, 0, none⟩)) (.pointer (some ⟨nb 1, 0, none⟩))).run Try.prog (w0.drewN n) = .ok (.bool true) (w0.drewN n) := fun n => HEr.out _ ⟨hb0.os, hb0.tape, hb0.output, hb0.size, hb0.block⟩
  have HB0 := hide hb0
  clear hw0 hb0 d1 d0
  go_big_quiet (fail)
  go_wp2_with fail
  go_ret
  exact ⟨rfl, belowD HB0.out _⟩
set_option maxHeartbeats 2000000 in
set_option maxRecDepth 100000 in
theorem prem_ok (ρ : Roles) (nb : Int → Nat) (mb : Nat) (w : World) (q : Nat) (R : List RN) (last : Int) (h : Dom ρ nb mb (some (nb 1)) w q R last) (kd id pa bf ky : Int) (tg nm tx : ByteArray) (hid : I64 id) (hI : Ids R) (hU : ∃ rk, Up R rk) (h64 : ∀ n, n ∈ R → I64 n.id) (k : Nat) (hk : k < R.length) (hki : R[k].id = id) (hk1 : id ≠ 1) (r : Nat) (hr : r < R.length) (hr1 : R[r].id = 1) :
    Calls Try.prog 52 #[.pointer (some ⟨q, 0, none⟩), .agg #[.int .i64 kd, .int .i64 id, .int .i64 pa, .int .i64 bf, .int .i64 ky, .string tg, .string nm, .string tx]] w fun e w' => e = .returned (.bool true) ∧ ∃ ρ', Wrote ρ ρ' w w' ∧ Dom ρ' nb mb (some (nb 1)) w' q (rmP R (walkP R R.length k 0)) last := by
  have d1 : w.cell? ⟨q, 1, none⟩ = some (.map (some mb)) := cell_of_blk h.blk 1 _ rfl
  have ltq := lt_of_blk h.blk
  have d0 : w.cell? ⟨q, 0, none⟩ = some (.pointer (some ⟨nb 1, 0, none⟩)) := cell_of_blk h.blk 0 _ rfl
  obtain ⟨avr, kvr, hPr⟩ := h.node _ (List.getElem_mem hr)
  obtain ⟨avk, kvk, hPk⟩ := h.node _ (List.getElem_mem hk)
  have hne : nb id ≠ nb 1 := fun e => by
    have := hPk.nb_inj hPr (by rw [hki, hr1]; exact e)
    rw [hki, hr1] at this
    exact hk1 this
  have HEr : Hid (∀ w1, Below w.heap.size w w1 → (binOp .eql 69 (.pointer (some ⟨nb id, 0, none⟩)) (.pointer (some ⟨nb 1, 0, none⟩))).run Try.prog w1 = .ok (.bool false) w1) := hide fun w1 hb => by
    have h2 : Plain w1 (nb 1) := by rw [← hr1]; exact ⟨_, _, (hb.block _ hPr.lt).trans hPr.blk⟩
    have h1 : Plain w1 (nb id) := by rw [← hki]; exact ⟨_, _, (hb.block _ hPk.lt).trans hPk.blk⟩
    have := run_eql_ptr h1 h2
    rwa [beq_false_of_ne (fun e => hne (by simpa using e))] at this
  have HLv : Hid (∀ w1, Below w.heap.size w w1 → Calls Try.prog 69 #[.pointer (some ⟨nb id, 0, none⟩)] w1 fun e w' => e = .returned (.tuple #[]) ∧ ∃ ρ', Wrote ρ ρ' w1 w' ∧ Dom ρ' nb mb (some (nb 1)) w' q (looseP R k) last) := hide fun w1 hb => by
    rw [← hki]
    exact leave_any ρ nb mb _ w1 q R last (h.below hb) hI hU k hk
  have HEa : Hid (∀ ρ' w2 D, Dom ρ' nb mb (some (nb 1)) w2 q (looseP R k) last → w2.cell? ⟨D, 0, none⟩ = some (.pointer (some ⟨q, 0, none⟩)) → D ≠ mb → Calls Try.prog 38 #[.pointer (some ⟨nb id, 0, none⟩), .func (.func 70) #[] #[.pointer (some ⟨D, 0, none⟩)]] w2 fun e w' => e = .returned (.tuple #[]) ∧ Wrote ρ' ρ' w2 w' ∧ Dom ρ' nb mb (some (nb 1)) w' q (rmP R (walkP R R.length k 0)) last) := hide fun ρ' w2 D hD cD hDm => by
    rw [← hki]
    exact rem_all hD hI hU hk h64 cD hDm
  have HL0 : Hid (∀ b, (ρ b).isSome = true → b < w.heap.size) := hide h.low
  have hkp : w.heap.size ≠ mb := fun e => by have := h.map.lt; omega
  have HLn : Hid (∀ w1, Below w.heap.size w w1 → (Instr.lookup 68 (.map (some mb)) (.int .i64 id) false).run Try.prog w1 = .ok (.pointer (some ⟨nb id, 0, none⟩)) w1) := hide fun w1 hb => by
    have := (h.below hb).map.look hid
    rw [← hki, blkOf_yes (List.getElem_mem hk), hki] at this
    exact this
  clear hne
  have HD0 := hide h.mrole
  clear h hPr hPk hki hr1
  go_enter Try.func52, Try.ntmps52
  go_wp2_with fail
  generalize hw0 : (w.alloc (.cells #[.pointer (some ⟨q, 0, none⟩)] 61)).alloc (.cells #[.int .i64 kd, .int .i64 id, .int .i64 pa, .int .i64 bf, .int .i64 ky, .string tg, .string nm, .string tx] 43) = w0
  have hb0 : Below w.heap.size w w0 := by rw [← hw0]; exact ((Below.refl _ _).alloc (Nat.le_refl _) _).alloc (by simp) _
  have lt0 : w.heap.size + 1 < w0.heap.size := by rw [← hw0]; simp
  have x0 : w0.cell? ⟨w.heap.size, 0, none⟩ = some (.pointer (some ⟨q, 0, none⟩)) := by rw [← hw0]; simp [go_sem]
  have x1 : w0.cell? ⟨w.heap.size + 1, 1, none⟩ = some (.int .i64 id) := by rw [← hw0]; simp [go_sem]
  have y1 : w0.cell? ⟨q, 1, none⟩ = some (.map (some mb)) := (hb0.cell (p := ⟨q, 1, none⟩) ltq).trans d1
  have y0 : w0.cell? ⟨q, 0, none⟩ = some (.pointer (some ⟨nb 1, 0, none⟩)) := (hb0.cell (p := ⟨q, 0, none⟩) ltq).trans d0
  have hln : ∀ n, (Instr.lookup 68 (.map (some mb)) (.int .i64 id) false).run Try.prog (w0.drewN n) = .ok (.pointer (some ⟨nb id, 0, none⟩)) (w0.drewN n) := fun n => HLn.out _ ⟨hb0.os, hb0.tape, hb0.output, hb0.size, hb0.block⟩
  have heqr : ∀ n, (binOp .eql 69 (.pointer (some ⟨nb id, 0, none⟩)) (.pointer (some ⟨nb 1, 0, none⟩))).run Try.prog (w0.drewN n) = .ok (.bool false) (w0.drewN n) := fun n => HEr.out _ ⟨hb0.os, hb0.tape, hb0.output, hb0.size, hb0.block⟩
  have HB0 := hide hb0
  clear hw0 hb0 d1 d0
  go_big_quiet (fail)
  go_wp2_with fail
  refine (HLv.out _ (belowD HB0.out _)).mono ?_
  rintro e w2 ⟨rfl, ρ1, hw1, hd1⟩
  have cD2 : w2.cell? ⟨w.heap.size, 0, none⟩ = some (.pointer (some ⟨q, 0, none⟩)) := by
    rw [World.cell?_of_block (hw1.1.block w.heap.size (by show w.heap.size < w0.heap.size; omega) (fun e => by have := HL0.out _ e; omega))]
    exact x0
  have HE2 := hide (HEa.out ρ1 w2 w.heap.size hd1 cD2 hkp)
  have HW1 := hide hw1
  clear hw1 hd1 cD2
  go_wp2_with (first | (go_at_call 38; refine (unhide HE2).mono ?_; rintro e w3 ⟨rfl, hw3, hd3⟩))
  go_ret
  exact ⟨rfl, ρ1, Wrote.after (belowD HB0.out _) (HW1.out.trans hw3), hd3⟩
end Go.Proofs.Ytobgcaemnpkbmaa
namespace Go.Proofs.Ytobgcaemnpkbmaa
open Go.RowKit
def needP (x : Pat) : Pat :=
  if x.kind = 1 then ⟨x.kind, x.id, 0, 0, x.key, x.tag, ⟨#[]⟩, x.text⟩
  else if x.kind = 2 then ⟨x.kind, x.id, x.par, x.bef, 0, ⟨#[]⟩, ⟨#[]⟩, ⟨#[]⟩⟩
  else if x.kind = 4 then ⟨x.kind, x.id, 0, 0, 0, ⟨#[]⟩, x.name, x.text⟩
  else if x.kind = 5 then ⟨x.kind, x.id, 0, 0, 0, ⟨#[]⟩, x.name, ⟨#[]⟩⟩
  else if x.kind = 6 then ⟨x.kind, x.id, 0, 0, 0, ⟨#[]⟩, ⟨#[]⟩, x.text⟩
  else ⟨x.kind, x.id, 0, 0, 0, ⟨#[]⟩, ⟨#[]⟩, ⟨#[]⟩⟩
set_option maxHeartbeats 2000000 in
set_option maxRecDepth 100000 in
theorem needed_create (id pa bf ky : Int) (tg nm tx : ByteArray) (w : World) :
    Calls Try.prog 49 #[.agg #[.int .i64 1, .int .i64 id, .int .i64 pa, .int .i64 bf, .int .i64 ky, .string tg, .string nm, .string tx]] w fun e w' => e = .returned (needP ⟨1, id, pa, bf, ky, tg, nm, tx⟩).val ∧ Below w.heap.size w w' := by
  go_enter Try.func49, Try.ntmps49
  go_wp2_with fail
  go_region_held3 (fun w' => w'.cell? ⟨w.heap.size, 5, none⟩ = some (.string tg) ∧ w'.cell? ⟨w.heap.size, 4, none⟩ = some (.int .i64 ky) ∧ w'.cell? ⟨w.heap.size, 7, none⟩ = some (.string tx)) (go_keep) (fail)
  go_wp2_with fail
  go_returns
  refine ⟨rfl, ?_⟩
  have hb1 := ((Below.refl w.heap.size w).alloc (Nat.le_refl _) (.cells #[.int .i64 1, .int .i64 id, .int .i64 pa, .int .i64 bf, .int .i64 ky, .string tg, .string nm, .string tx] 43))
  exact ((hb1.alloc (by simp) _).alloc (by simp; omega) _).drew
set_option maxHeartbeats 2000000 in
set_option maxRecDepth 100000 in
theorem needed_insert (id pa bf ky : Int) (tg nm tx : ByteArray) (w : World) :
    Calls Try.prog 49 #[.agg #[.int .i64 2, .int .i64 id, .int .i64 pa, .int .i64 bf, .int .i64 ky, .string tg, .string nm, .string tx]] w fun e w' => e = .returned (needP ⟨2, id, pa, bf, ky, tg, nm, tx⟩).val ∧ Below w.heap.size w w' := by
  go_enter Try.func49, Try.ntmps49
  go_wp2_with fail
  go_region_held3 (fun w' => w'.cell? ⟨w.heap.size, 2, none⟩ = some (.int .i64 pa) ∧ w'.cell? ⟨w.heap.size, 3, none⟩ = some (.int .i64 bf)) (go_keep) (fail)
  go_wp2_with fail
  go_returns
  refine ⟨rfl, ?_⟩
  have hb1 := ((Below.refl w.heap.size w).alloc (Nat.le_refl _) (.cells #[.int .i64 2, .int .i64 id, .int .i64 pa, .int .i64 bf, .int .i64 ky, .string tg, .string nm, .string tx] 43))
  exact ((hb1.alloc (by simp) _).alloc (by simp; omega) _).drew
set_option maxHeartbeats 2000000 in
set_option maxRecDepth 100000 in
theorem needed_set (id pa bf ky : Int) (tg nm tx : ByteArray) (w : World) :
    Calls Try.prog 49 #[.agg #[.int .i64 4, .int .i64 id, .int .i64 pa, .int .i64 bf, .int .i64 ky, .string tg, .string nm, .string tx]] w fun e w' => e = .returned (needP ⟨4, id, pa, bf, ky, tg, nm, tx⟩).val ∧ Below w.heap.size w w' := by
  go_enter Try.func49, Try.ntmps49
  go_wp2_with fail
  go_region_held3 (fun w' => w'.cell? ⟨w.heap.size, 6, none⟩ = some (.string nm) ∧ w'.cell? ⟨w.heap.size, 7, none⟩ = some (.string tx)) (go_keep) (fail)
  go_wp2_with fail
  go_returns
  refine ⟨rfl, ?_⟩
  have hb1 := ((Below.refl w.heap.size w).alloc (Nat.le_refl _) (.cells #[.int .i64 4, .int .i64 id, .int .i64 pa, .int .i64 bf, .int .i64 ky, .string tg, .string nm, .string tx] 43))
  exact ((hb1.alloc (by simp) _).alloc (by simp; omega) _).drew
set_option maxHeartbeats 2000000 in
set_option maxRecDepth 100000 in
theorem needed_unset (id pa bf ky : Int) (tg nm tx : ByteArray) (w : World) :
    Calls Try.prog 49 #[.agg #[.int .i64 5, .int .i64 id, .int .i64 pa, .int .i64 bf, .int .i64 ky, .string tg, .string nm, .string tx]] w fun e w' => e = .returned (needP ⟨5, id, pa, bf, ky, tg, nm, tx⟩).val ∧ Below w.heap.size w w' := by
  go_enter Try.func49, Try.ntmps49
  go_wp2_with fail
  go_returns
  refine ⟨rfl, ?_⟩
  have hb1 := ((Below.refl w.heap.size w).alloc (Nat.le_refl _) (.cells #[.int .i64 5, .int .i64 id, .int .i64 pa, .int .i64 bf, .int .i64 ky, .string tg, .string nm, .string tx] 43))
  exact ((hb1.alloc (by simp) _).alloc (by simp; omega) _)
set_option maxHeartbeats 2000000 in
set_option maxRecDepth 100000 in
theorem needed_write (id pa bf ky : Int) (tg nm tx : ByteArray) (w : World) :
    Calls Try.prog 49 #[.agg #[.int .i64 6, .int .i64 id, .int .i64 pa, .int .i64 bf, .int .i64 ky, .string tg, .string nm, .string tx]] w fun e w' => e = .returned (needP ⟨6, id, pa, bf, ky, tg, nm, tx⟩).val ∧ Below w.heap.size w w' := by
  go_enter Try.func49, Try.ntmps49
  go_wp2_with fail
  go_returns
  refine ⟨rfl, ?_⟩
  have hb1 := ((Below.refl w.heap.size w).alloc (Nat.le_refl _) (.cells #[.int .i64 6, .int .i64 id, .int .i64 pa, .int .i64 bf, .int .i64 ky, .string tg, .string nm, .string tx] 43))
  exact ((hb1.alloc (by simp) _).alloc (by simp; omega) _)
set_option maxHeartbeats 2000000 in
set_option maxRecDepth 100000 in
theorem needed_other (kd id pa bf ky : Int) (tg nm tx : ByteArray) (w : World) (h1 : kd ≠ 1) (h2 : kd ≠ 2) (h4 : kd ≠ 4) (h5 : kd ≠ 5) (h6 : kd ≠ 6) :
    Calls Try.prog 49 #[.agg #[.int .i64 kd, .int .i64 id, .int .i64 pa, .int .i64 bf, .int .i64 ky, .string tg, .string nm, .string tx]] w fun e w' => e = .returned (needP ⟨kd, id, pa, bf, ky, tg, nm, tx⟩).val ∧ Below w.heap.size w w' := by
  go_enter Try.func49, Try.ntmps49
  go_wp2_with fail
  go_returns
  refine ⟨by unfold needP; rw [if_neg h1, if_neg h2, if_neg h4, if_neg h5, if_neg h6]; rfl, ?_⟩
  have hb1 := ((Below.refl w.heap.size w).alloc (Nat.le_refl _) (.cells #[.int .i64 kd, .int .i64 id, .int .i64 pa, .int .i64 bf, .int .i64 ky, .string tg, .string nm, .string tx] 43))
  exact ((hb1.alloc (by simp) _).alloc (by simp; omega) _)
theorem needed_any (x : Pat) (w : World) : Calls Try.prog 49 #[x.val] w fun e w' => e = .returned (needP x).val ∧ Below w.heap.size w w' := by
  obtain ⟨kd, id, pa, bf, ky, tg, nm, tx⟩ := x
  by_cases h1 : kd = 1
  · subst h1; exact needed_create id pa bf ky tg nm tx w
  by_cases h2 : kd = 2
  · subst h2; exact needed_insert id pa bf ky tg nm tx w
  by_cases h4 : kd = 4
  · subst h4; exact needed_set id pa bf ky tg nm tx w
  by_cases h5 : kd = 5
  · subst h5; exact needed_unset id pa bf ky tg nm tx w
  by_cases h6 : kd = 6
  · subst h6; exact needed_write id pa bf ky tg nm tx w
  exact needed_other kd id pa bf ky tg nm tx w h1 h2 h4 h5 h6
end Go.Proofs.Ytobgcaemnpkbmaa
namespace Go.Proofs.Ytobgcaemnpkbmaa
open Go.RowKit
def patB (x y : Pat) : Bool := (x.kind == y.kind) && ((x.id == y.id) && ((x.par == y.par) && ((x.bef == y.bef) && ((x.key == y.key) && ((x.tag.toList == y.tag.toList) && ((x.name.toList == y.name.toList) && (x.text.toList == y.text.toList)))))))
theorem eqf_int {d o : Nat} {f : Field} {fs : List Field} {xs ys : Array Value} {a b : Int} (w : World) (h : (f.type, f.offset, f.name == "_") = (3, o, false)) (hx : xs[o]? = some (.int .i64 a)) (hy : ys[o]? = some (.int .i64 b)) :
    (Op.eqFields (d + 1) xs ys (f :: fs)).run Try.prog w = if (a == b) = true then (Op.eqFields (d + 1) xs ys fs).run Try.prog w else .ok false w := by
  obtain ⟨ht, h⟩ := Prod.mk.inj h
  obtain ⟨ho, hn⟩ := Prod.mk.inj h
  have hn' : f.name ≠ "_" := by simpa using hn
  have hp : ∀ (zs : Array Value) (z : Int), zs[o]? = some (.int .i64 z) → (part 3 zs o).run Try.prog w = .ok (.int .i64 z) w := fun zs z hz => run_part_plain _ (by kernel_rfl) hz
  rw [Op.eqFields, if_pos hn', ht, ho]
  simp only [Sem.run_bind, hp xs a hx, hp ys b hy, Result.andThen_ok, run_equalIn_int w d 3 .i64 .i64 a b Try.underlying3]
  by_cases e : (a == b) = true
  · rw [if_pos e, e]; simp
  · rw [if_neg e, Bool.eq_false_iff.2 e]; simp
theorem eqf_str {d o : Nat} {f : Field} {fs : List Field} {xs ys : Array Value} {a b : ByteArray} (w : World) (h : (f.type, f.offset, f.name == "_") = (9, o, false)) (hx : xs[o]? = some (.string a)) (hy : ys[o]? = some (.string b)) :
    (Op.eqFields (d + 1) xs ys (f :: fs)).run Try.prog w = if (a.toList == b.toList) = true then (Op.eqFields (d + 1) xs ys fs).run Try.prog w else .ok false w := by
  obtain ⟨ht, h⟩ := Prod.mk.inj h
  obtain ⟨ho, hn⟩ := Prod.mk.inj h
  have hn' : f.name ≠ "_" := by simpa using hn
  have hp : ∀ (zs : Array Value) (z : ByteArray), zs[o]? = some (.string z) → (part 9 zs o).run Try.prog w = .ok (.string z) w := fun zs z hz => run_part_plain _ (by kernel_rfl) hz
  rw [Op.eqFields, if_pos hn', ht, ho]
  simp only [Sem.run_bind, hp xs a hx, hp ys b hy, Result.andThen_ok, run_equalIn_string w d 9 a b Try.underlying9]
  by_cases e : (a.toList == b.toList) = true
  · rw [if_pos e, e]; simp
  · rw [if_neg e, Bool.eq_false_iff.2 e]; simp
theorem run_neq_pat (x y : Pat) (w : World) : (binOp .neq 43 x.val y.val).run Try.prog w = .ok (.bool (!patB x y)) w := by
  unfold Pat.val
  rw [run_neq_struct, run_equalIn_agg w _ _ _ _ (by kernel_rfl) (by kernel_rfl)]
  have hf : (Try.prog.fieldsOf 43).toList.map (fun f => (f.type, f.offset, f.name == "_")) = [(3, 0, false), (3, 1, false), (3, 2, false), (3, 3, false), (3, 4, false), (9, 5, false), (9, 6, false), (9, 7, false)] := by kernel_rfl
  generalize (Try.prog.fieldsOf 43).toList = fs at *
  have hl := congrArg List.length hf
  rw [List.length_map] at hl
  rcases fs with _ | ⟨f0, _ | ⟨f1, _ | ⟨f2, _ | ⟨f3, _ | ⟨f4, _ | ⟨f5, _ | ⟨f6, _ | ⟨f7, _ | ⟨f8, fs⟩⟩⟩⟩⟩⟩⟩⟩⟩
  case cons.cons.cons.cons.cons.cons.cons.cons.nil =>
    simp only [List.map_cons, List.map_nil, List.cons.injEq, and_true] at hf
    obtain ⟨h0, h1, h2, h3, h4, h5, h6, h7⟩ := hf
    rw [eqf_int w h0 rfl rfl, eqf_int w h1 rfl rfl, eqf_int w h2 rfl rfl, eqf_int w h3 rfl rfl, eqf_int w h4 rfl rfl, eqf_str w h5 rfl rfl, eqf_str w h6 rfl rfl, eqf_str w h7 rfl rfl, Op.eqFields]
    unfold patB
    cases (x.kind == y.kind) <;> cases (x.id == y.id) <;> cases (x.par == y.par) <;> cases (x.bef == y.bef) <;> cases (x.key == y.key) <;> cases (x.tag.toList == y.tag.toList) <;> cases (x.name.toList == y.name.toList) <;> cases (x.text.toList == y.text.toList) <;> rfl
  all_goals (simp at hl)
end Go.Proofs.Ytobgcaemnpkbmaa
