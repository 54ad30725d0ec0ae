/- Pin -/
import Derived.Test.YtobgcaemnpkbmaaGreatD11
namespace Go.Proofs.YtobgcaemnpkbmaaGreat
open Go.RowKit
theorem Wrote.after {ρ ρ' : Roles} {w w1 w2 : World} (hb : Below w.heap.size w w1) (h : Wrote ρ ρ' w1 w2) : Wrote ρ ρ' w w2 :=
  ⟨⟨h.1.os.trans hb.os, h.1.tape.trans hb.tape, h.1.output.trans hb.output, Nat.le_trans hb.size h.1.size, fun b hlt hn => (h.1.block b (Nat.lt_of_lt_of_le hlt hb.size) hn).trans (hb.block b hlt)⟩, h.2.1, fun b hs => (h.2.2 b hs).imp id (fun e => Nat.le_trans hb.size e)⟩
theorem Wrote.trans {ρ ρ1 ρ2 : Roles} {w w1 w2 : World} (h : Wrote ρ ρ1 w w1) (k : Wrote ρ1 ρ2 w1 w2) : Wrote ρ ρ2 w w2 := by
  refine ⟨⟨k.1.os.trans h.1.os, k.1.tape.trans h.1.tape, k.1.output.trans h.1.output, Nat.le_trans h.1.size k.1.size, fun b hlt hn => ?_⟩, fun b hs => ?_, fun b hs => ?_⟩
  · refine (k.1.block b (Nat.lt_of_lt_of_le hlt h.1.size) (fun hs => ?_)).trans (h.1.block b hlt hn)
    rcases h.2.2 b hs with e | e
    · exact hn e
    · omega
  · rw [k.2.1 b (by rw [h.2.1 b hs]; exact hs), h.2.1 b hs]
  · rcases k.2.2 b hs with e | e
    · exact h.2.2 b e
    · exact .inr (Nat.le_trans h.1.size e)
theorem loose_get_k {R : List RN} {k : Nat} (hk : k < R.length) (h : k < (looseP R k).length) : (looseP R k)[k] = { R[k] with par := 0 } := by
  rw [List.getElem_of_eq (looseP_lt hk), List.getElem_set_self]
theorem loose_get {R : List RN} {k j : Nat} (hk : k < R.length) (hj : j < R.length) (hne : j ≠ k) (h : j < (looseP R k).length) : (looseP R k)[j] = R[j] := by
  rw [List.getElem_of_eq (looseP_lt hk), List.getElem_set_ne (fun e => hne e.symm)]
theorem take_loose0 {ρ : Roles} {nb : Int → Nat} {mb : Nat} {rt : Option Nat} {w : World} {q : Nat} {R : List RN} {last : Int} {k t : Nat} (h : Dom ρ nb mb rt w q (looseP R k) last) (hI : Ids R) (hk : k < R.length) (ht : t < R.length) (hne : R[t].id ≠ R[k].id) :
    Calls Tryz.prog 44 #[.pointer (some ⟨nb R[t].id, 0, none⟩), .pointer (some ⟨nb R[k].id, 0, none⟩), .pointer none] w fun e w' => e = .returned (.tuple #[]) ∧ ∃ ρ', Wrote ρ ρ' w w' ∧ Dom ρ' nb mb rt w' q (insP R { R[k] with par := R[t].id } k 0) last := by
  have hk' : k < (looseP R k).length := by rw [loose_length hk]; exact hk
  have ht' : t < (looseP R k).length := by rw [loose_length hk]; exact ht
  have e1 := loose_get_k hk hk'
  have e2 := loose_get hk ht (fun e => hne (by subst e; rfl)) ht'
  have := take_last ρ nb mb rt w q (looseP R k) last h (loose_ids hI hk) k t hk' ht' (by rw [e1, e2]; exact hne) (by rw [e1])
  rw [e1, e2, ins_loose hk] at this
  exact this
theorem take_loose1 {ρ : Roles} {nb : Int → Nat} {mb : Nat} {rt : Option Nat} {w : World} {q : Nat} {R : List RN} {last : Int} {k t b : Nat} (h : Dom ρ nb mb rt w q (looseP R k) last) (hI : Ids R) (hk : k < R.length) (ht : t < R.length) (hne : R[t].id ≠ R[k].id) (hb : b < R.length) (hbk : b ≠ k) (hbp : R[b].par = R[t].id) :
    Calls Tryz.prog 44 #[.pointer (some ⟨nb R[t].id, 0, none⟩), .pointer (some ⟨nb R[k].id, 0, none⟩), .pointer (some ⟨nb R[b].id, 0, none⟩)] w fun e w' => e = .returned (.tuple #[]) ∧ ∃ ρ', Wrote ρ ρ' w w' ∧ Dom ρ' nb mb rt w' q (insP R { R[k] with par := R[t].id } k R[b].id) last := by
  have hk' : k < (looseP R k).length := by rw [loose_length hk]; exact hk
  have ht' : t < (looseP R k).length := by rw [loose_length hk]; exact ht
  have hb' : b < (looseP R k).length := by rw [loose_length hk]; exact hb
  have e1 := loose_get_k hk hk'
  have e2 := loose_get hk ht (fun e => hne (by subst e; rfl)) ht'
  have e3 := loose_get hk hb hbk hb'
  have := take_before ρ nb mb rt w q (looseP R k) last h (loose_ids hI hk) k t hk' ht' (by rw [e1, e2]; exact hne) (by rw [e1]) b hb' (by rw [e2, e3]; exact hbp)
  rw [e1, e2, e3, ins_loose hk] at this
  exact this
theorem run_neq_nil_ptr (w : World) (a : Addr) : (binOp .neq 112 (.pointer none) (.pointer (some a))).run Tryz.prog w = .ok (.bool true) w := by
  have h : ∀ d : Nat, (Op.equalIn (d + 1) 112 (.pointer none) (.pointer (some a))).run Tryz.prog w = .ok false w := fun d => by
    simp [Op.equalIn, run_underlying Tryz.underlying112]
  simp only [binOp]
  simp [Op.equal, Op.maxDepth, h 9999]
set_option maxHeartbeats 2000000 in
set_option maxRecDepth 100000 in
theorem pins_none (ρ : Roles) (nb : Int → Nat) (mb : Nat) (w : World) (q : Nat) (R : List RN) (last : Int) (h : Dom ρ nb mb (some (nb 1)) w q R last) (kd id pa bf ky : Int) (tg nm tx : ByteArray) (hid : I64 id) (hpa : I64 pa) (hno : ∀ n, n ∈ R → n.id ≠ id) (pv : Value) (hpv : ptrOpt (blkOf nb R pa) = pv) :
    Calls Tryz.prog 87 #[.pointer (some ⟨q, 0, none⟩), .agg #[.int .i64 kd, .int .i64 id, .int .i64 pa, .int .i64 bf, .int .i64 ky, .string tg, .string nm, .string tx]] w fun e w' => e = .returned (.bool false) ∧ Below w.heap.size w w' := by
  have d1 : w.cell? ⟨q, 1, none⟩ = some (.map (some mb)) := cell_of_blk h.blk 1 _ rfl
  have ltq := lt_of_blk h.blk
  have d0 : w.cell? ⟨q, 0, none⟩ = some (.pointer (some ⟨nb 1, 0, none⟩)) := cell_of_blk h.blk 0 _ rfl
  have Hlkn : Hid (∀ w1, Below w.heap.size w w1 → (Instr.lookup 111 (.map (some mb)) (.int .i64 id) false).run Tryz.prog w1 = .ok (.pointer none) w1) := hide fun w1 hbw => by
    have := (h.below hbw).map.look hid
    rw [blkOf_no hno] at this
    exact this
  have HLt : Hid (∀ w1, Below w.heap.size w w1 → (Instr.lookup 111 (.map (some mb)) (.int .i64 pa) false).run Tryz.prog w1 = .ok pv w1) := hide fun w1 hb => by
    rw [← hpv]
    exact (h.below hb).map.look hpa
  clear h hpv
  go_enter Tryz.func87, Tryz.ntmps87
  go_wp2_with fail
  generalize hw0 : w.alloc (.cells #[.int .i64 kd, .int .i64 id, .int .i64 pa, .int .i64 bf, .int .i64 ky, .string tg, .string nm, .string tx] 29) = w0
  have hb0 : Below w.heap.size w w0 := by rw [← hw0]; exact (Below.refl _ _).alloc (Nat.le_refl _) _
  have lt0 : w.heap.size < w0.heap.size := by rw [← hw0]; simp
  have x1 : w0.cell? ⟨w.heap.size, 1, none⟩ = some (.int .i64 id) := by rw [← hw0]; simp [go_sem]
  have x2 : w0.cell? ⟨w.heap.size, 2, none⟩ = some (.int .i64 pa) := by rw [← hw0]; simp [go_sem]
  have x3 : w0.cell? ⟨w.heap.size, 3, none⟩ = some (.int .i64 bf) := by rw [← hw0]; simp [go_sem]
  have y1 : w0.cell? ⟨q, 1, none⟩ = some (.map (some mb)) := (hb0.cell (p := ⟨q, 1, none⟩) ltq).trans d1
  have y0 : w0.cell? ⟨q, 0, none⟩ = some (.pointer (some ⟨nb 1, 0, none⟩)) := (hb0.cell (p := ⟨q, 0, none⟩) ltq).trans d0
  have lkn : ∀ n, (Instr.lookup 111 (.map (some mb)) (.int .i64 id) false).run Tryz.prog (w0.drewN n) = .ok (.pointer none) (w0.drewN n) := fun n => Hlkn.out _ ⟨hb0.os, hb0.tape, hb0.output, hb0.size, hb0.block⟩
  have hlt : ∀ n, (Instr.lookup 111 (.map (some mb)) (.int .i64 pa) false).run Tryz.prog (w0.drewN n) = .ok pv (w0.drewN n) := fun n => HLt.out _ ⟨hb0.os, hb0.tape, hb0.output, hb0.size, hb0.block⟩
  have HB0 := hide hb0
  clear hw0 hb0 d1 d0
  go_big_quiet (fail)
  go_wp2_with fail
  go_ret
  exact ⟨rfl, belowD HB0.out _⟩
set_option maxHeartbeats 2000000 in
set_option maxRecDepth 100000 in
theorem pins_root (ρ : Roles) (nb : Int → Nat) (mb : Nat) (w : World) (q : Nat) (R : List RN) (last : Int) (h : Dom ρ nb mb (some (nb 1)) w q R last) (kd pa bf ky : Int) (tg nm tx : ByteArray) (r : Nat) (hr : r < R.length) (hr1 : R[r].id = 1) (hpa : I64 pa) (pv : Value) (hpv : ptrOpt (blkOf nb R pa) = pv) :
    Calls Tryz.prog 87 #[.pointer (some ⟨q, 0, none⟩), .agg #[.int .i64 kd, .int .i64 1, .int .i64 pa, .int .i64 bf, .int .i64 ky, .string tg, .string nm, .string tx]] w fun e w' => e = .returned (.bool false) ∧ Below w.heap.size w w' := by
  obtain ⟨avr, kvr, hPr⟩ := h.node _ (List.getElem_mem hr)
  have d1 : w.cell? ⟨q, 1, none⟩ = some (.map (some mb)) := cell_of_blk h.blk 1 _ rfl
  have ltq := lt_of_blk h.blk
  have d0 : w.cell? ⟨q, 0, none⟩ = some (.pointer (some ⟨nb 1, 0, none⟩)) := cell_of_blk h.blk 0 _ rfl
  have HLn : Hid (∀ w1, Below w.heap.size w w1 → (Instr.lookup 111 (.map (some mb)) (.int .i64 1) false).run Tryz.prog w1 = .ok (.pointer (some ⟨nb 1, 0, none⟩)) w1) := hide fun w1 hb => by
    have := (h.below hb).map.look (i := 1) ⟨by decide, by decide⟩
    rw [← hr1, blkOf_yes (List.getElem_mem hr), hr1] at this
    exact this
  have HLt : Hid (∀ w1, Below w.heap.size w w1 → (Instr.lookup 111 (.map (some mb)) (.int .i64 pa) false).run Tryz.prog w1 = .ok pv w1) := hide fun w1 hb => by
    rw [← hpv]
    exact (h.below hb).map.look hpa
  have HEr : Hid (∀ w1, Below w.heap.size w w1 → (binOp .eql 112 (.pointer (some ⟨nb 1, 0, none⟩)) (.pointer (some ⟨nb 1, 0, none⟩))).run Tryz.prog w1 = .ok (.bool true) w1) := hide fun w1 hb => by
    have h2 : Plain w1 (nb 1) := by rw [← hr1]; exact ⟨_, _, (hb.block _ hPr.lt).trans hPr.blk⟩
    rw [run_eql_ptr h2 h2, beq_self_eq_true]
  clear h hpv hPr hr1
  go_enter Tryz.func87, Tryz.ntmps87
  go_wp2_with fail
  generalize hw0 : w.alloc (.cells #[.int .i64 kd, .int .i64 1, .int .i64 pa, .int .i64 bf, .int .i64 ky, .string tg, .string nm, .string tx] 29) = w0
  have hb0 : Below w.heap.size w w0 := by rw [← hw0]; exact (Below.refl _ _).alloc (Nat.le_refl _) _
  have lt0 : w.heap.size < w0.heap.size := by rw [← hw0]; simp
  have x1 : w0.cell? ⟨w.heap.size, 1, none⟩ = some (.int .i64 1) := by rw [← hw0]; simp [go_sem]
  have x2 : w0.cell? ⟨w.heap.size, 2, none⟩ = some (.int .i64 pa) := by rw [← hw0]; simp [go_sem]
  have x3 : w0.cell? ⟨w.heap.size, 3, none⟩ = some (.int .i64 bf) := by rw [← hw0]; simp [go_sem]
  have y1 : w0.cell? ⟨q, 1, none⟩ = some (.map (some mb)) := (hb0.cell (p := ⟨q, 1, none⟩) ltq).trans d1
  have y0 : w0.cell? ⟨q, 0, none⟩ = some (.pointer (some ⟨nb 1, 0, none⟩)) := (hb0.cell (p := ⟨q, 0, none⟩) ltq).trans d0
  have hln : ∀ n, (Instr.lookup 111 (.map (some mb)) (.int .i64 1) false).run Tryz.prog (w0.drewN n) = .ok (.pointer (some ⟨nb 1, 0, none⟩)) (w0.drewN n) := fun n => HLn.out _ ⟨hb0.os, hb0.tape, hb0.output, hb0.size, hb0.block⟩
  have hlt : ∀ n, (Instr.lookup 111 (.map (some mb)) (.int .i64 pa) false).run Tryz.prog (w0.drewN n) = .ok pv (w0.drewN n) := fun n => HLt.out _ ⟨hb0.os, hb0.tape, hb0.output, hb0.size, hb0.block⟩
  have heqr : ∀ n, (binOp .eql 112 (.pointer (some ⟨nb 1, 0, none⟩)) (.pointer (some ⟨nb 1, 0, none⟩))).run Tryz.prog (w0.drewN n) = .ok (.bool true) (w0.drewN n) := fun n => HEr.out _ ⟨hb0.os, hb0.tape, hb0.output, hb0.size, hb0.block⟩
  have HB0 := hide hb0
  clear hw0 hb0 d1 d0
  go_big_quiet (fail)
  go_wp2_with fail
  go_ret
  exact ⟨rfl, belowD HB0.out _⟩
set_option maxHeartbeats 2000000 in
set_option maxRecDepth 100000 in
theorem pins_nopar (ρ : Roles) (nb : Int → Nat) (mb : Nat) (w : World) (q : Nat) (R : List RN) (last : Int) (h : Dom ρ nb mb (some (nb 1)) w q R last) (kd id pa bf ky : Int) (tg nm tx : ByteArray) (k : Nat) (hk : k < R.length) (hid : I64 R[k].id) (hidk : R[k].id = id) (r : Nat) (hr : r < R.length) (hr1 : R[r].id = 1) (hne1 : R[k].id ≠ 1) (hpa : I64 pa) (hno : ∀ n, n ∈ R → n.id ≠ pa) :
    Calls Tryz.prog 87 #[.pointer (some ⟨q, 0, none⟩), .agg #[.int .i64 kd, .int .i64 id, .int .i64 pa, .int .i64 bf, .int .i64 ky, .string tg, .string nm, .string tx]] w fun e w' => e = .returned (.bool false) ∧ Below w.heap.size w w' := by
  subst hidk
  obtain ⟨avn, kvn, hPn⟩ := h.node _ (List.getElem_mem hk)
  obtain ⟨avr, kvr, hPr⟩ := h.node _ (List.getElem_mem hr)
  have d1 : w.cell? ⟨q, 1, none⟩ = some (.map (some mb)) := cell_of_blk h.blk 1 _ rfl
  have ltq := lt_of_blk h.blk
  have d0 : w.cell? ⟨q, 0, none⟩ = some (.pointer (some ⟨nb 1, 0, none⟩)) := cell_of_blk h.blk 0 _ rfl
  have Hlkn : Hid (∀ w1, Below w.heap.size w w1 → (Instr.lookup 111 (.map (some mb)) (.int .i64 R[k].id) false).run Tryz.prog w1 = .ok (.pointer (some ⟨nb R[k].id, 0, none⟩)) w1) := hide fun w1 hbw => by
    have := (h.below hbw).map.look hid
    rw [blkOf_yes (List.getElem_mem hk)] at this
    exact this
  have Hlkt : Hid (∀ w1, Below w.heap.size w w1 → (Instr.lookup 111 (.map (some mb)) (.int .i64 pa) false).run Tryz.prog w1 = .ok (.pointer none) w1) := hide fun w1 hbw => by
    have := (h.below hbw).map.look hpa
    rw [blkOf_no hno] at this
    exact this
  have HEr : Hid (∀ w1, Below w.heap.size w w1 → (binOp .eql 112 (.pointer (some ⟨nb R[k].id, 0, none⟩)) (.pointer (some ⟨nb 1, 0, none⟩))).run Tryz.prog w1 = .ok (.bool false) w1) := hide fun w1 hb => by
    have h1 : Plain w1 (nb R[k].id) := ⟨_, _, (hb.block _ hPn.lt).trans hPn.blk⟩
    have h2 : Plain w1 (nb 1) := by rw [← hr1]; exact ⟨_, _, (hb.block _ hPr.lt).trans hPr.blk⟩
    rw [run_eql_ptr h1 h2]
    have : (nb R[k].id == nb 1) = false := by
      rw [beq_eq_false_iff_ne, ← hr1]
      exact fun e => hne1 ((hPn.nb_inj hPr e).trans hr1)
    rw [this]
  clear h hPn hPr hr1 hne1
  go_enter Tryz.func87, Tryz.ntmps87
  go_wp2_with fail
  generalize hw0 : w.alloc (.cells #[.int .i64 kd, .int .i64 R[k].id, .int .i64 pa, .int .i64 bf, .int .i64 ky, .string tg, .string nm, .string tx] 29) = w0
  have hb0 : Below w.heap.size w w0 := by rw [← hw0]; exact (Below.refl _ _).alloc (Nat.le_refl _) _
  have lt0 : w.heap.size < w0.heap.size := by rw [← hw0]; simp
  have x1 : w0.cell? ⟨w.heap.size, 1, none⟩ = some (.int .i64 R[k].id) := by rw [← hw0]; simp [go_sem]
  have x2 : w0.cell? ⟨w.heap.size, 2, none⟩ = some (.int .i64 pa) := by rw [← hw0]; simp [go_sem]
  have x3 : w0.cell? ⟨w.heap.size, 3, none⟩ = some (.int .i64 bf) := by rw [← hw0]; simp [go_sem]
  have y1 : w0.cell? ⟨q, 1, none⟩ = some (.map (some mb)) := (hb0.cell (p := ⟨q, 1, none⟩) ltq).trans d1
  have y0 : w0.cell? ⟨q, 0, none⟩ = some (.pointer (some ⟨nb 1, 0, none⟩)) := (hb0.cell (p := ⟨q, 0, none⟩) ltq).trans d0
  have lkn : ∀ n, (Instr.lookup 111 (.map (some mb)) (.int .i64 R[k].id) false).run Tryz.prog (w0.drewN n) = .ok (.pointer (some ⟨nb R[k].id, 0, none⟩)) (w0.drewN n) := fun n => Hlkn.out _ ⟨hb0.os, hb0.tape, hb0.output, hb0.size, hb0.block⟩
  have lkt : ∀ n, (Instr.lookup 111 (.map (some mb)) (.int .i64 pa) false).run Tryz.prog (w0.drewN n) = .ok (.pointer none) (w0.drewN n) := fun n => Hlkt.out _ ⟨hb0.os, hb0.tape, hb0.output, hb0.size, hb0.block⟩
  have heqr : ∀ n, (binOp .eql 112 (.pointer (some ⟨nb R[k].id, 0, none⟩)) (.pointer (some ⟨nb 1, 0, none⟩))).run Tryz.prog (w0.drewN n) = .ok (.bool false) (w0.drewN n) := fun n => HEr.out _ ⟨hb0.os, hb0.tape, hb0.output, hb0.size, hb0.block⟩
  have HB0 := hide hb0
  clear hw0 hb0 d1 d0
  go_big_quiet (fail)
  go_wp2_with fail
  go_ret
  exact ⟨rfl, belowD HB0.out _⟩
set_option maxHeartbeats 2000000 in
set_option maxRecDepth 100000 in
theorem pins_text (ρ : Roles) (nb : Int → Nat) (mb : Nat) (w : World) (q : Nat) (R : List RN) (last : Int) (h : Dom ρ nb mb (some (nb 1)) w q R last) (kd id pa bf ky : Int) (tg nm tx : ByteArray) (k : Nat) (hk : k < R.length) (hid : I64 R[k].id) (hidk : R[k].id = id) (r : Nat) (hr : r < R.length) (hr1 : R[r].id = 1) (hne1 : R[k].id ≠ 1) (t : Nat) (ht : t < R.length) (hpa : I64 R[t].id) (hidt : R[t].id = pa) (htag : R[t].tag.toList.isEmpty = true) :
    Calls Tryz.prog 87 #[.pointer (some ⟨q, 0, none⟩), .agg #[.int .i64 kd, .int .i64 id, .int .i64 pa, .int .i64 bf, .int .i64 ky, .string tg, .string nm, .string tx]] w fun e w' => e = .returned (.bool false) ∧ Below w.heap.size w w' := by
  subst hidk
  obtain ⟨avn, kvn, hPn⟩ := h.node _ (List.getElem_mem hk)
  obtain ⟨avr, kvr, hPr⟩ := h.node _ (List.getElem_mem hr)
  subst hidt
  obtain ⟨avt, kvt, hPt⟩ := h.node _ (List.getElem_mem ht)
  have d1 : w.cell? ⟨q, 1, none⟩ = some (.map (some mb)) := cell_of_blk h.blk 1 _ rfl
  have ltq := lt_of_blk h.blk
  have d0 : w.cell? ⟨q, 0, none⟩ = some (.pointer (some ⟨nb 1, 0, none⟩)) := cell_of_blk h.blk 0 _ rfl
  have Hlkn : Hid (∀ w1, Below w.heap.size w w1 → (Instr.lookup 111 (.map (some mb)) (.int .i64 R[k].id) false).run Tryz.prog w1 = .ok (.pointer (some ⟨nb R[k].id, 0, none⟩)) w1) := hide fun w1 hbw => by
    have := (h.below hbw).map.look hid
    rw [blkOf_yes (List.getElem_mem hk)] at this
    exact this
  have Hlkt : Hid (∀ w1, Below w.heap.size w w1 → (Instr.lookup 111 (.map (some mb)) (.int .i64 R[t].id) false).run Tryz.prog w1 = .ok (.pointer (some ⟨nb R[t].id, 0, none⟩)) w1) := hide fun w1 hbw => by
    have := (h.below hbw).map.look hpa
    rw [blkOf_yes (List.getElem_mem ht)] at this
    exact this
  have HEr : Hid (∀ w1, Below w.heap.size w w1 → (binOp .eql 112 (.pointer (some ⟨nb R[k].id, 0, none⟩)) (.pointer (some ⟨nb 1, 0, none⟩))).run Tryz.prog w1 = .ok (.bool false) w1) := hide fun w1 hb => by
    have h1 : Plain w1 (nb R[k].id) := ⟨_, _, (hb.block _ hPn.lt).trans hPn.blk⟩
    have h2 : Plain w1 (nb 1) := by rw [← hr1]; exact ⟨_, _, (hb.block _ hPr.lt).trans hPr.blk⟩
    rw [run_eql_ptr h1 h2]
    have : (nb R[k].id == nb 1) = false := by
      rw [beq_eq_false_iff_ne, ← hr1]
      exact fun e => hne1 ((hPn.nb_inj hPr e).trans hr1)
    rw [this]
  have HEl : Hid (∀ w1, Below w.heap.size w w1 → Calls Tryz.prog 102 #[.pointer (some ⟨nb R[t].id, 0, none⟩)] w1 fun e w' => e = .returned (.bool false) ∧ w1 = w') := hide fun w1 hb => by
    have := isElem_any (hPt.kept (R' := R) (w' := w1) (ρ' := ρ) (fun b j e => hb.block b (h.low b (by rw [e]; rfl))) (fun _ _ => rfl) rfl)
    rw [htag] at this
    exact this.mono fun _ _ h => ⟨h.1, h.2.symm⟩
  clear h hPn hPr hPt hr1 hne1
  go_enter Tryz.func87, Tryz.ntmps87
  go_wp2_with fail
  generalize hw0 : w.alloc (.cells #[.int .i64 kd, .int .i64 R[k].id, .int .i64 R[t].id, .int .i64 bf, .int .i64 ky, .string tg, .string nm, .string tx] 29) = w0
  have hb0 : Below w.heap.size w w0 := by rw [← hw0]; exact (Below.refl _ _).alloc (Nat.le_refl _) _
  have lt0 : w.heap.size < w0.heap.size := by rw [← hw0]; simp
  have x1 : w0.cell? ⟨w.heap.size, 1, none⟩ = some (.int .i64 R[k].id) := by rw [← hw0]; simp [go_sem]
  have x2 : w0.cell? ⟨w.heap.size, 2, none⟩ = some (.int .i64 R[t].id) := by rw [← hw0]; simp [go_sem]
  have x3 : w0.cell? ⟨w.heap.size, 3, none⟩ = some (.int .i64 bf) := by rw [← hw0]; simp [go_sem]
  have y1 : w0.cell? ⟨q, 1, none⟩ = some (.map (some mb)) := (hb0.cell (p := ⟨q, 1, none⟩) ltq).trans d1
  have y0 : w0.cell? ⟨q, 0, none⟩ = some (.pointer (some ⟨nb 1, 0, none⟩)) := (hb0.cell (p := ⟨q, 0, none⟩) ltq).trans d0
  have lkn : ∀ n, (Instr.lookup 111 (.map (some mb)) (.int .i64 R[k].id) false).run Tryz.prog (w0.drewN n) = .ok (.pointer (some ⟨nb R[k].id, 0, none⟩)) (w0.drewN n) := fun n => Hlkn.out _ ⟨hb0.os, hb0.tape, hb0.output, hb0.size, hb0.block⟩
  have lkt : ∀ n, (Instr.lookup 111 (.map (some mb)) (.int .i64 R[t].id) false).run Tryz.prog (w0.drewN n) = .ok (.pointer (some ⟨nb R[t].id, 0, none⟩)) (w0.drewN n) := fun n => Hlkt.out _ ⟨hb0.os, hb0.tape, hb0.output, hb0.size, hb0.block⟩
  have heqr : ∀ n, (binOp .eql 112 (.pointer (some ⟨nb R[k].id, 0, none⟩)) (.pointer (some ⟨nb 1, 0, none⟩))).run Tryz.prog (w0.drewN n) = .ok (.bool false) (w0.drewN n) := fun n => HEr.out _ ⟨hb0.os, hb0.tape, hb0.output, hb0.size, hb0.block⟩
  have HB0 := hide hb0
  clear hw0 hb0 d1 d0
  go_big_quiet (fail)
  go_wp2_with (first | (go_at_call 102; refine (unhide HEl _ (belowD (unhide HB0) _)).mono ?_; rintro e w1 ⟨rfl, rfl⟩))
  go_ret
  exact ⟨rfl, belowD HB0.out _⟩
set_option maxHeartbeats 2000000 in
set_option maxRecDepth 100000 in
theorem pins_in (ρ : Roles) (nb : Int → Nat) (mb : Nat) (w : World) (q : Nat) (R : List RN) (last : Int) (h : Dom ρ nb mb (some (nb 1)) w q R last) (kd id pa bf ky : Int) (tg nm tx : ByteArray) (hI : Ids R) (rk : Int → Nat) (hU : Up R rk) (k : Nat) (hk : k < R.length) (hid : I64 R[k].id) (hidk : R[k].id = id) (r : Nat) (hr : r < R.length) (hr1 : R[r].id = 1) (hne1 : R[k].id ≠ 1) (t : Nat) (ht : t < R.length) (hpa : I64 R[t].id) (hidt : R[t].id = pa) (htag : R[t].tag.toList.isEmpty = false) (hin : inP R (rk R[t].id + 1) R[t].id R[k].id = true) :
    Calls Tryz.prog 87 #[.pointer (some ⟨q, 0, none⟩), .agg #[.int .i64 kd, .int .i64 id, .int .i64 pa, .int .i64 bf, .int .i64 ky, .string tg, .string nm, .string tx]] w fun e w' => e = .returned (.bool false) ∧ Below w.heap.size w w' := by
  subst hidk
  obtain ⟨avn, kvn, hPn⟩ := h.node _ (List.getElem_mem hk)
  obtain ⟨avr, kvr, hPr⟩ := h.node _ (List.getElem_mem hr)
  subst hidt
  obtain ⟨avt, kvt, hPt⟩ := h.node _ (List.getElem_mem ht)
  have d1 : w.cell? ⟨q, 1, none⟩ = some (.map (some mb)) := cell_of_blk h.blk 1 _ rfl
  have ltq := lt_of_blk h.blk
  have d0 : w.cell? ⟨q, 0, none⟩ = some (.pointer (some ⟨nb 1, 0, none⟩)) := cell_of_blk h.blk 0 _ rfl
  have Hlkn : Hid (∀ w1, Below w.heap.size w w1 → (Instr.lookup 111 (.map (some mb)) (.int .i64 R[k].id) false).run Tryz.prog w1 = .ok (.pointer (some ⟨nb R[k].id, 0, none⟩)) w1) := hide fun w1 hbw => by
    have := (h.below hbw).map.look hid
    rw [blkOf_yes (List.getElem_mem hk)] at this
    exact this
  have Hlkt : Hid (∀ w1, Below w.heap.size w w1 → (Instr.lookup 111 (.map (some mb)) (.int .i64 R[t].id) false).run Tryz.prog w1 = .ok (.pointer (some ⟨nb R[t].id, 0, none⟩)) w1) := hide fun w1 hbw => by
    have := (h.below hbw).map.look hpa
    rw [blkOf_yes (List.getElem_mem ht)] at this
    exact this
  have HEr : Hid (∀ w1, Below w.heap.size w w1 → (binOp .eql 112 (.pointer (some ⟨nb R[k].id, 0, none⟩)) (.pointer (some ⟨nb 1, 0, none⟩))).run Tryz.prog w1 = .ok (.bool false) w1) := hide fun w1 hb => by
    have h1 : Plain w1 (nb R[k].id) := ⟨_, _, (hb.block _ hPn.lt).trans hPn.blk⟩
    have h2 : Plain w1 (nb 1) := by rw [← hr1]; exact ⟨_, _, (hb.block _ hPr.lt).trans hPr.blk⟩
    rw [run_eql_ptr h1 h2]
    have : (nb R[k].id == nb 1) = false := by
      rw [beq_eq_false_iff_ne, ← hr1]
      exact fun e => hne1 ((hPn.nb_inj hPr e).trans hr1)
    rw [this]
  have HEl : Hid (∀ w1, Below w.heap.size w w1 → Calls Tryz.prog 102 #[.pointer (some ⟨nb R[t].id, 0, none⟩)] w1 fun e w' => e = .returned (.bool true) ∧ w1 = w') := hide fun w1 hb => by
    have := isElem_any (hPt.kept (R' := R) (w' := w1) (ρ' := ρ) (fun b j e => hb.block b (h.low b (by rw [e]; rfl))) (fun _ _ => rfl) rfl)
    rw [htag] at this
    exact this.mono fun _ _ h => ⟨h.1, h.2.symm⟩
  have HIn : Hid (∀ w1, Below w.heap.size w w1 → Calls Tryz.prog 103 #[.pointer (some ⟨nb R[t].id, 0, none⟩), .pointer (some ⟨nb R[k].id, 0, none⟩)] w1 fun e w' => e = .returned (.bool true) ∧ w1 = w') := hide fun w1 hb => by
    have := isIn_any ρ nb mb _ w1 q R last (h.below hb) hI rk hU t k ht hk
    rw [hin] at this
    exact this.mono fun _ _ h => ⟨h.1, h.2.symm⟩
  clear h hPn hPr hPt hr1 hne1
  go_enter Tryz.func87, Tryz.ntmps87
  go_wp2_with fail
  generalize hw0 : w.alloc (.cells #[.int .i64 kd, .int .i64 R[k].id, .int .i64 R[t].id, .int .i64 bf, .int .i64 ky, .string tg, .string nm, .string tx] 29) = w0
  have hb0 : Below w.heap.size w w0 := by rw [← hw0]; exact (Below.refl _ _).alloc (Nat.le_refl _) _
  have lt0 : w.heap.size < w0.heap.size := by rw [← hw0]; simp
  have x1 : w0.cell? ⟨w.heap.size, 1, none⟩ = some (.int .i64 R[k].id) := by rw [← hw0]; simp [go_sem]
  have x2 : w0.cell? ⟨w.heap.size, 2, none⟩ = some (.int .i64 R[t].id) := by rw [← hw0]; simp [go_sem]
  have x3 : w0.cell? ⟨w.heap.size, 3, none⟩ = some (.int .i64 bf) := by rw [← hw0]; simp [go_sem]
  have y1 : w0.cell? ⟨q, 1, none⟩ = some (.map (some mb)) := (hb0.cell (p := ⟨q, 1, none⟩) ltq).trans d1
  have y0 : w0.cell? ⟨q, 0, none⟩ = some (.pointer (some ⟨nb 1, 0, none⟩)) := (hb0.cell (p := ⟨q, 0, none⟩) ltq).trans d0
  have lkn : ∀ n, (Instr.lookup 111 (.map (some mb)) (.int .i64 R[k].id) false).run Tryz.prog (w0.drewN n) = .ok (.pointer (some ⟨nb R[k].id, 0, none⟩)) (w0.drewN n) := fun n => Hlkn.out _ ⟨hb0.os, hb0.tape, hb0.output, hb0.size, hb0.block⟩
  have lkt : ∀ n, (Instr.lookup 111 (.map (some mb)) (.int .i64 R[t].id) false).run Tryz.prog (w0.drewN n) = .ok (.pointer (some ⟨nb R[t].id, 0, none⟩)) (w0.drewN n) := fun n => Hlkt.out _ ⟨hb0.os, hb0.tape, hb0.output, hb0.size, hb0.block⟩
  have heqr : ∀ n, (binOp .eql 112 (.pointer (some ⟨nb R[k].id, 0, none⟩)) (.pointer (some ⟨nb 1, 0, none⟩))).run Tryz.prog (w0.drewN n) = .ok (.bool false) (w0.drewN n) := fun n => HEr.out _ ⟨hb0.os, hb0.tape, hb0.output, hb0.size, hb0.block⟩
  have HB0 := hide hb0
  clear hw0 hb0 d1 d0
  go_big_quiet (fail)
  go_wp2_with (first | (go_at_call 102; refine (unhide HEl _ (belowD (unhide HB0) _)).mono ?_; rintro e w1 ⟨rfl, rfl⟩) | (go_at_call 103; refine (unhide HIn _ (belowD (unhide HB0) _)).mono ?_; rintro e w1 ⟨rfl, rfl⟩))
  go_ret
  exact ⟨rfl, belowD HB0.out _⟩
set_option maxHeartbeats 2000000 in
set_option maxRecDepth 100000 in
theorem pins_nobef (ρ : Roles) (nb : Int → Nat) (mb : Nat) (w : World) (q : Nat) (R : List RN) (last : Int) (h : Dom ρ nb mb (some (nb 1)) w q R last) (kd id pa bf ky : Int) (tg nm tx : ByteArray) (hI : Ids R) (rk : Int → Nat) (hU : Up R rk) (k : Nat) (hk : k < R.length) (hid : I64 R[k].id) (hidk : R[k].id = id) (r : Nat) (hr : r < R.length) (hr1 : R[r].id = 1) (hne1 : R[k].id ≠ 1) (t : Nat) (ht : t < R.length) (hpa : I64 R[t].id) (hidt : R[t].id = pa) (htag : R[t].tag.toList.isEmpty = false) (hin : inP R (rk R[t].id + 1) R[t].id R[k].id = false) (hbf : I64 bf) (hbz : bf ≠ 0) (hnob : ∀ n, n ∈ R → n.id ≠ bf) :
    Calls Tryz.prog 87 #[.pointer (some ⟨q, 0, none⟩), .agg #[.int .i64 kd, .int .i64 id, .int .i64 pa, .int .i64 bf, .int .i64 ky, .string tg, .string nm, .string tx]] w fun e w' => e = .returned (.bool false) ∧ Below w.heap.size w w' := by
  subst hidk
  obtain ⟨avn, kvn, hPn⟩ := h.node _ (List.getElem_mem hk)
  obtain ⟨avr, kvr, hPr⟩ := h.node _ (List.getElem_mem hr)
  subst hidt
  obtain ⟨avt, kvt, hPt⟩ := h.node _ (List.getElem_mem ht)
  have d1 : w.cell? ⟨q, 1, none⟩ = some (.map (some mb)) := cell_of_blk h.blk 1 _ rfl
  have ltq := lt_of_blk h.blk
  have d0 : w.cell? ⟨q, 0, none⟩ = some (.pointer (some ⟨nb 1, 0, none⟩)) := cell_of_blk h.blk 0 _ rfl
  have Hlkn : Hid (∀ w1, Below w.heap.size w w1 → (Instr.lookup 111 (.map (some mb)) (.int .i64 R[k].id) false).run Tryz.prog w1 = .ok (.pointer (some ⟨nb R[k].id, 0, none⟩)) w1) := hide fun w1 hbw => by
    have := (h.below hbw).map.look hid
    rw [blkOf_yes (List.getElem_mem hk)] at this
    exact this
  have Hlkt : Hid (∀ w1, Below w.heap.size w w1 → (Instr.lookup 111 (.map (some mb)) (.int .i64 R[t].id) false).run Tryz.prog w1 = .ok (.pointer (some ⟨nb R[t].id, 0, none⟩)) w1) := hide fun w1 hbw => by
    have := (h.below hbw).map.look hpa
    rw [blkOf_yes (List.getElem_mem ht)] at this
    exact this
  have Hlkb : Hid (∀ w1, Below w.heap.size w w1 → (Instr.lookup 111 (.map (some mb)) (.int .i64 bf) false).run Tryz.prog w1 = .ok (.pointer none) w1) := hide fun w1 hbw => by
    have := (h.below hbw).map.look hbf
    rw [blkOf_no hnob] at this
    exact this
  have HEr : Hid (∀ w1, Below w.heap.size w w1 → (binOp .eql 112 (.pointer (some ⟨nb R[k].id, 0, none⟩)) (.pointer (some ⟨nb 1, 0, none⟩))).run Tryz.prog w1 = .ok (.bool false) w1) := hide fun w1 hb => by
    have h1 : Plain w1 (nb R[k].id) := ⟨_, _, (hb.block _ hPn.lt).trans hPn.blk⟩
    have h2 : Plain w1 (nb 1) := by rw [← hr1]; exact ⟨_, _, (hb.block _ hPr.lt).trans hPr.blk⟩
    rw [run_eql_ptr h1 h2]
    have : (nb R[k].id == nb 1) = false := by
      rw [beq_eq_false_iff_ne, ← hr1]
      exact fun e => hne1 ((hPn.nb_inj hPr e).trans hr1)
    rw [this]
  have HEl : Hid (∀ w1, Below w.heap.size w w1 → Calls Tryz.prog 102 #[.pointer (some ⟨nb R[t].id, 0, none⟩)] w1 fun e w' => e = .returned (.bool true) ∧ w1 = w') := hide fun w1 hb => by
    have := isElem_any (hPt.kept (R' := R) (w' := w1) (ρ' := ρ) (fun b j e => hb.block b (h.low b (by rw [e]; rfl))) (fun _ _ => rfl) rfl)
    rw [htag] at this
    exact this.mono fun _ _ h => ⟨h.1, h.2.symm⟩
  have HIn : Hid (∀ w1, Below w.heap.size w w1 → Calls Tryz.prog 103 #[.pointer (some ⟨nb R[t].id, 0, none⟩), .pointer (some ⟨nb R[k].id, 0, none⟩)] w1 fun e w' => e = .returned (.bool false) ∧ w1 = w') := hide fun w1 hb => by
    have := isIn_any ρ nb mb _ w1 q R last (h.below hb) hI rk hU t k ht hk
    rw [hin] at this
    exact this.mono fun _ _ h => ⟨h.1, h.2.symm⟩
  clear h hPn hPr hPt hr1 hne1
  go_enter Tryz.func87, Tryz.ntmps87
  go_wp2_with fail
  generalize hw0 : w.alloc (.cells #[.int .i64 kd, .int .i64 R[k].id, .int .i64 R[t].id, .int .i64 bf, .int .i64 ky, .string tg, .string nm, .string tx] 29) = w0
  have hb0 : Below w.heap.size w w0 := by rw [← hw0]; exact (Below.refl _ _).alloc (Nat.le_refl _) _
  have lt0 : w.heap.size < w0.heap.size := by rw [← hw0]; simp
  have x1 : w0.cell? ⟨w.heap.size, 1, none⟩ = some (.int .i64 R[k].id) := by rw [← hw0]; simp [go_sem]
  have x2 : w0.cell? ⟨w.heap.size, 2, none⟩ = some (.int .i64 R[t].id) := by rw [← hw0]; simp [go_sem]
  have x3 : w0.cell? ⟨w.heap.size, 3, none⟩ = some (.int .i64 bf) := by rw [← hw0]; simp [go_sem]
  have y1 : w0.cell? ⟨q, 1, none⟩ = some (.map (some mb)) := (hb0.cell (p := ⟨q, 1, none⟩) ltq).trans d1
  have y0 : w0.cell? ⟨q, 0, none⟩ = some (.pointer (some ⟨nb 1, 0, none⟩)) := (hb0.cell (p := ⟨q, 0, none⟩) ltq).trans d0
  have lkn : ∀ n, (Instr.lookup 111 (.map (some mb)) (.int .i64 R[k].id) false).run Tryz.prog (w0.drewN n) = .ok (.pointer (some ⟨nb R[k].id, 0, none⟩)) (w0.drewN n) := fun n => Hlkn.out _ ⟨hb0.os, hb0.tape, hb0.output, hb0.size, hb0.block⟩
  have lkt : ∀ n, (Instr.lookup 111 (.map (some mb)) (.int .i64 R[t].id) false).run Tryz.prog (w0.drewN n) = .ok (.pointer (some ⟨nb R[t].id, 0, none⟩)) (w0.drewN n) := fun n => Hlkt.out _ ⟨hb0.os, hb0.tape, hb0.output, hb0.size, hb0.block⟩
  have lkb : ∀ n, (Instr.lookup 111 (.map (some mb)) (.int .i64 bf) false).run Tryz.prog (w0.drewN n) = .ok (.pointer none) (w0.drewN n) := fun n => Hlkb.out _ ⟨hb0.os, hb0.tape, hb0.output, hb0.size, hb0.block⟩
  have heqr : ∀ n, (binOp .eql 112 (.pointer (some ⟨nb R[k].id, 0, none⟩)) (.pointer (some ⟨nb 1, 0, none⟩))).run Tryz.prog (w0.drewN n) = .ok (.bool false) (w0.drewN n) := fun n => HEr.out _ ⟨hb0.os, hb0.tape, hb0.output, hb0.size, hb0.block⟩
  have HB0 := hide hb0
  clear hw0 hb0 d1 d0
  go_big_quiet (fail)
  go_wp2_with (first | (go_at_call 102; refine (unhide HEl _ (belowD (unhide HB0) _)).mono ?_; rintro e w1 ⟨rfl, rfl⟩) | (go_at_call 103; refine (unhide HIn _ (belowD (unhide HB0) _)).mono ?_; rintro e w1 ⟨rfl, rfl⟩))
  generalize hwq : w0.drewN nq = wq
  have hbq : Below w.heap.size w wq := by rw [← hwq]; exact belowD HB0.out _
  have x3q : wq.cell? ⟨w.heap.size, 3, none⟩ = some (.int .i64 bf) := by rw [← hwq]; exact x3
  have y1q : wq.cell? ⟨q, 1, none⟩ = some (.map (some mb)) := by rw [← hwq]; exact y1
  have lkbq : ∀ n, (Instr.lookup 111 (.map (some mb)) (.int .i64 bf) false).run Tryz.prog (wq.drewN n) = .ok (.pointer none) (wq.drewN n) := fun n => Hlkb.out _ ⟨hbq.os, hbq.tape, hbq.output, hbq.size, hbq.block⟩
  have HBq := hide hbq
  clear hwq hbq lkn lkt lkb heqr
  go_big_quiet (fail)
  go_wp2_with fail
  go_ret
  exact ⟨rfl, belowD HBq.out _⟩
set_option maxHeartbeats 2000000 in
set_option maxRecDepth 100000 in
theorem pins_self (ρ : Roles) (nb : Int → Nat) (mb : Nat) (w : World) (q : Nat) (R : List RN) (last : Int) (h : Dom ρ nb mb (some (nb 1)) w q R last) (kd id pa ky : Int) (tg nm tx : ByteArray) (hI : Ids R) (rk : Int → Nat) (hU : Up R rk) (k : Nat) (hk : k < R.length) (hid : I64 R[k].id) (hidk : R[k].id = id) (r : Nat) (hr : r < R.length) (hr1 : R[r].id = 1) (hne1 : R[k].id ≠ 1) (t : Nat) (ht : t < R.length) (hpa : I64 R[t].id) (hidt : R[t].id = pa) (htag : R[t].tag.toList.isEmpty = false) (hin : inP R (rk R[t].id + 1) R[t].id R[k].id = false) (hbz : R[k].id ≠ 0) :
    Calls Tryz.prog 87 #[.pointer (some ⟨q, 0, none⟩), .agg #[.int .i64 kd, .int .i64 id, .int .i64 pa, .int .i64 id, .int .i64 ky, .string tg, .string nm, .string tx]] w fun e w' => e = .returned (.bool false) ∧ Below w.heap.size w w' := by
  subst hidk
  obtain ⟨avn, kvn, hPn⟩ := h.node _ (List.getElem_mem hk)
  obtain ⟨avr, kvr, hPr⟩ := h.node _ (List.getElem_mem hr)
  subst hidt
  obtain ⟨avt, kvt, hPt⟩ := h.node _ (List.getElem_mem ht)
  have d1 : w.cell? ⟨q, 1, none⟩ = some (.map (some mb)) := cell_of_blk h.blk 1 _ rfl
  have ltq := lt_of_blk h.blk
  have d0 : w.cell? ⟨q, 0, none⟩ = some (.pointer (some ⟨nb 1, 0, none⟩)) := cell_of_blk h.blk 0 _ rfl
  have Hlkn : Hid (∀ w1, Below w.heap.size w w1 → (Instr.lookup 111 (.map (some mb)) (.int .i64 R[k].id) false).run Tryz.prog w1 = .ok (.pointer (some ⟨nb R[k].id, 0, none⟩)) w1) := hide fun w1 hbw => by
    have := (h.below hbw).map.look hid
    rw [blkOf_yes (List.getElem_mem hk)] at this
    exact this
  have Hlkt : Hid (∀ w1, Below w.heap.size w w1 → (Instr.lookup 111 (.map (some mb)) (.int .i64 R[t].id) false).run Tryz.prog w1 = .ok (.pointer (some ⟨nb R[t].id, 0, none⟩)) w1) := hide fun w1 hbw => by
    have := (h.below hbw).map.look hpa
    rw [blkOf_yes (List.getElem_mem ht)] at this
    exact this
  have HEr : Hid (∀ w1, Below w.heap.size w w1 → (binOp .eql 112 (.pointer (some ⟨nb R[k].id, 0, none⟩)) (.pointer (some ⟨nb 1, 0, none⟩))).run Tryz.prog w1 = .ok (.bool false) w1) := hide fun w1 hb => by
    have h1 : Plain w1 (nb R[k].id) := ⟨_, _, (hb.block _ hPn.lt).trans hPn.blk⟩
    have h2 : Plain w1 (nb 1) := by rw [← hr1]; exact ⟨_, _, (hb.block _ hPr.lt).trans hPr.blk⟩
    rw [run_eql_ptr h1 h2]
    have : (nb R[k].id == nb 1) = false := by
      rw [beq_eq_false_iff_ne, ← hr1]
      exact fun e => hne1 ((hPn.nb_inj hPr e).trans hr1)
    rw [this]
  have HEl : Hid (∀ w1, Below w.heap.size w w1 → Calls Tryz.prog 102 #[.pointer (some ⟨nb R[t].id, 0, none⟩)] w1 fun e w' => e = .returned (.bool true) ∧ w1 = w') := hide fun w1 hb => by
    have := isElem_any (hPt.kept (R' := R) (w' := w1) (ρ' := ρ) (fun b j e => hb.block b (h.low b (by rw [e]; rfl))) (fun _ _ => rfl) rfl)
    rw [htag] at this
    exact this.mono fun _ _ h => ⟨h.1, h.2.symm⟩
  have HIn : Hid (∀ w1, Below w.heap.size w w1 → Calls Tryz.prog 103 #[.pointer (some ⟨nb R[t].id, 0, none⟩), .pointer (some ⟨nb R[k].id, 0, none⟩)] w1 fun e w' => e = .returned (.bool false) ∧ w1 = w') := hide fun w1 hb => by
    have := isIn_any ρ nb mb _ w1 q R last (h.below hb) hI rk hU t k ht hk
    rw [hin] at this
    exact this.mono fun _ _ h => ⟨h.1, h.2.symm⟩
  have HEs : Hid (∀ w1, Below w.heap.size w w1 → (binOp .eql 112 (.pointer (some ⟨nb R[k].id, 0, none⟩)) (.pointer (some ⟨nb R[k].id, 0, none⟩))).run Tryz.prog w1 = .ok (.bool true) w1) := hide fun w1 hb => by
    have h1 : Plain w1 (nb R[k].id) := ⟨_, _, (hb.block _ hPn.lt).trans hPn.blk⟩
    rw [run_eql_ptr h1 h1, beq_self_eq_true]
  clear h hPn hPr hPt hr1 hne1
  go_enter Tryz.func87, Tryz.ntmps87
  go_wp2_with fail
  generalize hw0 : w.alloc (.cells #[.int .i64 kd, .int .i64 R[k].id, .int .i64 R[t].id, .int .i64 R[k].id, .int .i64 ky, .string tg, .string nm, .string tx] 29) = w0
  have hb0 : Below w.heap.size w w0 := by rw [← hw0]; exact (Below.refl _ _).alloc (Nat.le_refl _) _
  have lt0 : w.heap.size < w0.heap.size := by rw [← hw0]; simp
  have x1 : w0.cell? ⟨w.heap.size, 1, none⟩ = some (.int .i64 R[k].id) := by rw [← hw0]; simp [go_sem]
  have x2 : w0.cell? ⟨w.heap.size, 2, none⟩ = some (.int .i64 R[t].id) := by rw [← hw0]; simp [go_sem]
  have x3 : w0.cell? ⟨w.heap.size, 3, none⟩ = some (.int .i64 R[k].id) := by rw [← hw0]; simp [go_sem]
  have y1 : w0.cell? ⟨q, 1, none⟩ = some (.map (some mb)) := (hb0.cell (p := ⟨q, 1, none⟩) ltq).trans d1
  have y0 : w0.cell? ⟨q, 0, none⟩ = some (.pointer (some ⟨nb 1, 0, none⟩)) := (hb0.cell (p := ⟨q, 0, none⟩) ltq).trans d0
  have lkn : ∀ n, (Instr.lookup 111 (.map (some mb)) (.int .i64 R[k].id) false).run Tryz.prog (w0.drewN n) = .ok (.pointer (some ⟨nb R[k].id, 0, none⟩)) (w0.drewN n) := fun n => Hlkn.out _ ⟨hb0.os, hb0.tape, hb0.output, hb0.size, hb0.block⟩
  have lkt : ∀ n, (Instr.lookup 111 (.map (some mb)) (.int .i64 R[t].id) false).run Tryz.prog (w0.drewN n) = .ok (.pointer (some ⟨nb R[t].id, 0, none⟩)) (w0.drewN n) := fun n => Hlkt.out _ ⟨hb0.os, hb0.tape, hb0.output, hb0.size, hb0.block⟩
  have heqr : ∀ n, (binOp .eql 112 (.pointer (some ⟨nb R[k].id, 0, none⟩)) (.pointer (some ⟨nb 1, 0, none⟩))).run Tryz.prog (w0.drewN n) = .ok (.bool false) (w0.drewN n) := fun n => HEr.out _ ⟨hb0.os, hb0.tape, hb0.output, hb0.size, hb0.block⟩
  have HB0 := hide hb0
  clear hw0 hb0 d1 d0
  go_big_quiet (fail)
  go_wp2_with (first | (go_at_call 102; refine (unhide HEl _ (belowD (unhide HB0) _)).mono ?_; rintro e w1 ⟨rfl, rfl⟩) | (go_at_call 103; refine (unhide HIn _ (belowD (unhide HB0) _)).mono ?_; rintro e w1 ⟨rfl, rfl⟩))
  generalize hwq : w0.drewN nq = wq
  have hbq : Below w.heap.size w wq := by rw [← hwq]; exact belowD HB0.out _
  have x3q : wq.cell? ⟨w.heap.size, 3, none⟩ = some (.int .i64 R[k].id) := by rw [← hwq]; exact x3
  have y1q : wq.cell? ⟨q, 1, none⟩ = some (.map (some mb)) := by rw [← hwq]; exact y1
  have lkbq : ∀ n, (Instr.lookup 111 (.map (some mb)) (.int .i64 R[k].id) false).run Tryz.prog (wq.drewN n) = .ok (.pointer (some ⟨nb R[k].id, 0, none⟩)) (wq.drewN n) := fun n => Hlkn.out _ ⟨hbq.os, hbq.tape, hbq.output, hbq.size, hbq.block⟩
  have heqs : ∀ n, (binOp .eql 112 (.pointer (some ⟨nb R[k].id, 0, none⟩)) (.pointer (some ⟨nb R[k].id, 0, none⟩))).run Tryz.prog (wq.drewN n) = .ok (.bool true) (wq.drewN n) := fun n => HEs.out _ ⟨hbq.os, hbq.tape, hbq.output, hbq.size, hbq.block⟩
  have HBq := hide hbq
  clear hwq hbq lkn lkt heqr
  go_big_quiet (fail)
  go_wp2_with fail
  go_ret
  exact ⟨rfl, belowD HBq.out _⟩
set_option maxHeartbeats 2000000 in
set_option maxRecDepth 100000 in
theorem pins_nokid (ρ : Roles) (nb : Int → Nat) (mb : Nat) (w : World) (q : Nat) (R : List RN) (last : Int) (h : Dom ρ nb mb (some (nb 1)) w q R last) (kd id pa bf ky : Int) (tg nm tx : ByteArray) (hI : Ids R) (rk : Int → Nat) (hU : Up R rk) (k : Nat) (hk : k < R.length) (hid : I64 R[k].id) (hidk : R[k].id = id) (r : Nat) (hr : r < R.length) (hr1 : R[r].id = 1) (hne1 : R[k].id ≠ 1) (t : Nat) (ht : t < R.length) (hpa : I64 R[t].id) (hidt : R[t].id = pa) (htag : R[t].tag.toList.isEmpty = false) (hin : inP R (rk R[t].id + 1) R[t].id R[k].id = false) (b : Nat) (hb : b < R.length) (hbf : I64 R[b].id) (hidb : R[b].id = bf) (hbk : R[b].id ≠ R[k].id) (hbz : R[b].id ≠ 0) (hbp : R[b].par ≠ R[t].id) :
    Calls Tryz.prog 87 #[.pointer (some ⟨q, 0, none⟩), .agg #[.int .i64 kd, .int .i64 id, .int .i64 pa, .int .i64 bf, .int .i64 ky, .string tg, .string nm, .string tx]] w fun e w' => e = .returned (.bool false) ∧ Below w.heap.size w w' := by
  subst hidk
  obtain ⟨avn, kvn, hPn⟩ := h.node _ (List.getElem_mem hk)
  obtain ⟨avr, kvr, hPr⟩ := h.node _ (List.getElem_mem hr)
  subst hidt
  obtain ⟨avt, kvt, hPt⟩ := h.node _ (List.getElem_mem ht)
  subst hidb
  obtain ⟨avb, kvb, hPb⟩ := h.node _ (List.getElem_mem hb)
  have d1 : w.cell? ⟨q, 1, none⟩ = some (.map (some mb)) := cell_of_blk h.blk 1 _ rfl
  have ltq := lt_of_blk h.blk
  have d0 : w.cell? ⟨q, 0, none⟩ = some (.pointer (some ⟨nb 1, 0, none⟩)) := cell_of_blk h.blk 0 _ rfl
  have Hlkn : Hid (∀ w1, Below w.heap.size w w1 → (Instr.lookup 111 (.map (some mb)) (.int .i64 R[k].id) false).run Tryz.prog w1 = .ok (.pointer (some ⟨nb R[k].id, 0, none⟩)) w1) := hide fun w1 hbw => by
    have := (h.below hbw).map.look hid
    rw [blkOf_yes (List.getElem_mem hk)] at this
    exact this
  have Hlkt : Hid (∀ w1, Below w.heap.size w w1 → (Instr.lookup 111 (.map (some mb)) (.int .i64 R[t].id) false).run Tryz.prog w1 = .ok (.pointer (some ⟨nb R[t].id, 0, none⟩)) w1) := hide fun w1 hbw => by
    have := (h.below hbw).map.look hpa
    rw [blkOf_yes (List.getElem_mem ht)] at this
    exact this
  have Hlkb : Hid (∀ w1, Below w.heap.size w w1 → (Instr.lookup 111 (.map (some mb)) (.int .i64 R[b].id) false).run Tryz.prog w1 = .ok (.pointer (some ⟨nb R[b].id, 0, none⟩)) w1) := hide fun w1 hbw => by
    have := (h.below hbw).map.look hbf
    rw [blkOf_yes (List.getElem_mem hb)] at this
    exact this
  have HEr : Hid (∀ w1, Below w.heap.size w w1 → (binOp .eql 112 (.pointer (some ⟨nb R[k].id, 0, none⟩)) (.pointer (some ⟨nb 1, 0, none⟩))).run Tryz.prog w1 = .ok (.bool false) w1) := hide fun w1 hb => by
    have h1 : Plain w1 (nb R[k].id) := ⟨_, _, (hb.block _ hPn.lt).trans hPn.blk⟩
    have h2 : Plain w1 (nb 1) := by rw [← hr1]; exact ⟨_, _, (hb.block _ hPr.lt).trans hPr.blk⟩
    rw [run_eql_ptr h1 h2]
    have : (nb R[k].id == nb 1) = false := by
      rw [beq_eq_false_iff_ne, ← hr1]
      exact fun e => hne1 ((hPn.nb_inj hPr e).trans hr1)
    rw [this]
  have HEl : Hid (∀ w1, Below w.heap.size w w1 → Calls Tryz.prog 102 #[.pointer (some ⟨nb R[t].id, 0, none⟩)] w1 fun e w' => e = .returned (.bool true) ∧ w1 = w') := hide fun w1 hb => by
    have := isElem_any (hPt.kept (R' := R) (w' := w1) (ρ' := ρ) (fun b j e => hb.block b (h.low b (by rw [e]; rfl))) (fun _ _ => rfl) rfl)
    rw [htag] at this
    exact this.mono fun _ _ h => ⟨h.1, h.2.symm⟩
  have HIn : Hid (∀ w1, Below w.heap.size w w1 → Calls Tryz.prog 103 #[.pointer (some ⟨nb R[t].id, 0, none⟩), .pointer (some ⟨nb R[k].id, 0, none⟩)] w1 fun e w' => e = .returned (.bool false) ∧ w1 = w') := hide fun w1 hb => by
    have := isIn_any ρ nb mb _ w1 q R last (h.below hb) hI rk hU t k ht hk
    rw [hin] at this
    exact this.mono fun _ _ h => ⟨h.1, h.2.symm⟩
  have HEs : Hid (∀ w1, Below w.heap.size w w1 → (binOp .eql 112 (.pointer (some ⟨nb R[b].id, 0, none⟩)) (.pointer (some ⟨nb R[k].id, 0, none⟩))).run Tryz.prog w1 = .ok (.bool false) w1) := hide fun w1 hw => by
    have h1 : Plain w1 (nb R[k].id) := ⟨_, _, (hw.block _ hPn.lt).trans hPn.blk⟩
    have h2 : Plain w1 (nb R[b].id) := ⟨_, _, (hw.block _ hPb.lt).trans hPb.blk⟩
    rw [run_eql_ptr h2 h1]
    have : (nb R[b].id == nb R[k].id) = false := by
      rw [beq_eq_false_iff_ne]
      exact fun e => hbk (hPb.nb_inj hPn e)
    rw [this]
  have c5 : w.cell? ⟨nb R[b].id, 5, none⟩ = some (parPtr nb R[b].par) := cell_of_blk hPb.blk 5 _ rfl
  have ltB := hPb.lt
  have HNe : Hid (∀ w1, Below w.heap.size w w1 → (binOp .neq 112 (parPtr nb R[b].par) (.pointer (some ⟨nb R[t].id, 0, none⟩))).run Tryz.prog w1 = .ok (.bool true) w1) := hide fun w1 hw => by
    rcases hU.par _ (List.getElem_mem hb) with e | ⟨m, hm, e⟩
    · unfold parPtr
      rw [if_pos e]
      exact run_neq_nil_ptr w1 _
    · obtain ⟨a1, a2, hPm⟩ := h.node m hm
      have hpm := hI.pos m hm
      have h1 : Plain w1 (nb m.id) := ⟨_, _, (hw.block _ hPm.lt).trans hPm.blk⟩
      have h2 : Plain w1 (nb R[t].id) := ⟨_, _, (hw.block _ hPt.lt).trans hPt.blk⟩
      unfold parPtr
      rw [if_neg (by omega), ← e, run_neq_ptr h1 h2]
      have : (nb m.id != nb R[t].id) = true := by
        simp only [bne_iff_ne]
        exact fun x => hbp (by rw [← e]; exact hPm.nb_inj hPt x)
      rw [this]
  obtain ⟨po, hpo⟩ : ∃ po, parPtr nb R[b].par = .pointer po := by
    unfold parPtr
    split
    · exact ⟨_, rfl⟩
    · exact ⟨_, rfl⟩
  rw [hpo] at HNe c5
  clear hpo
  clear h hPn hPr hPt hPb hr1 hne1 hbk
  go_enter Tryz.func87, Tryz.ntmps87
  go_wp2_with fail
  generalize hw0 : w.alloc (.cells #[.int .i64 kd, .int .i64 R[k].id, .int .i64 R[t].id, .int .i64 R[b].id, .int .i64 ky, .string tg, .string nm, .string tx] 29) = w0
  have hb0 : Below w.heap.size w w0 := by rw [← hw0]; exact (Below.refl _ _).alloc (Nat.le_refl _) _
  have lt0 : w.heap.size < w0.heap.size := by rw [← hw0]; simp
  have x1 : w0.cell? ⟨w.heap.size, 1, none⟩ = some (.int .i64 R[k].id) := by rw [← hw0]; simp [go_sem]
  have x2 : w0.cell? ⟨w.heap.size, 2, none⟩ = some (.int .i64 R[t].id) := by rw [← hw0]; simp [go_sem]
  have x3 : w0.cell? ⟨w.heap.size, 3, none⟩ = some (.int .i64 R[b].id) := by rw [← hw0]; simp [go_sem]
  have y1 : w0.cell? ⟨q, 1, none⟩ = some (.map (some mb)) := (hb0.cell (p := ⟨q, 1, none⟩) ltq).trans d1
  have y0 : w0.cell? ⟨q, 0, none⟩ = some (.pointer (some ⟨nb 1, 0, none⟩)) := (hb0.cell (p := ⟨q, 0, none⟩) ltq).trans d0
  have lkn : ∀ n, (Instr.lookup 111 (.map (some mb)) (.int .i64 R[k].id) false).run Tryz.prog (w0.drewN n) = .ok (.pointer (some ⟨nb R[k].id, 0, none⟩)) (w0.drewN n) := fun n => Hlkn.out _ ⟨hb0.os, hb0.tape, hb0.output, hb0.size, hb0.block⟩
  have lkt : ∀ n, (Instr.lookup 111 (.map (some mb)) (.int .i64 R[t].id) false).run Tryz.prog (w0.drewN n) = .ok (.pointer (some ⟨nb R[t].id, 0, none⟩)) (w0.drewN n) := fun n => Hlkt.out _ ⟨hb0.os, hb0.tape, hb0.output, hb0.size, hb0.block⟩
  have lkb : ∀ n, (Instr.lookup 111 (.map (some mb)) (.int .i64 R[b].id) false).run Tryz.prog (w0.drewN n) = .ok (.pointer (some ⟨nb R[b].id, 0, none⟩)) (w0.drewN n) := fun n => Hlkb.out _ ⟨hb0.os, hb0.tape, hb0.output, hb0.size, hb0.block⟩
  have heqr : ∀ n, (binOp .eql 112 (.pointer (some ⟨nb R[k].id, 0, none⟩)) (.pointer (some ⟨nb 1, 0, none⟩))).run Tryz.prog (w0.drewN n) = .ok (.bool false) (w0.drewN n) := fun n => HEr.out _ ⟨hb0.os, hb0.tape, hb0.output, hb0.size, hb0.block⟩
  have HB0 := hide hb0
  clear hw0 hb0 d1 d0
  go_big_quiet (fail)
  go_wp2_with (first | (go_at_call 102; refine (unhide HEl _ (belowD (unhide HB0) _)).mono ?_; rintro e w1 ⟨rfl, rfl⟩) | (go_at_call 103; refine (unhide HIn _ (belowD (unhide HB0) _)).mono ?_; rintro e w1 ⟨rfl, rfl⟩))
  generalize hwq : w0.drewN nq = wq
  have hbq : Below w.heap.size w wq := by rw [← hwq]; exact belowD HB0.out _
  have x3q : wq.cell? ⟨w.heap.size, 3, none⟩ = some (.int .i64 R[b].id) := by rw [← hwq]; exact x3
  have y1q : wq.cell? ⟨q, 1, none⟩ = some (.map (some mb)) := by rw [← hwq]; exact y1
  have lkbq : ∀ n, (Instr.lookup 111 (.map (some mb)) (.int .i64 R[b].id) false).run Tryz.prog (wq.drewN n) = .ok (.pointer (some ⟨nb R[b].id, 0, none⟩)) (wq.drewN n) := fun n => Hlkb.out _ ⟨hbq.os, hbq.tape, hbq.output, hbq.size, hbq.block⟩
  have heqs : ∀ n, (binOp .eql 112 (.pointer (some ⟨nb R[b].id, 0, none⟩)) (.pointer (some ⟨nb R[k].id, 0, none⟩))).run Tryz.prog (wq.drewN n) = .ok (.bool false) (wq.drewN n) := fun n => HEs.out _ ⟨hbq.os, hbq.tape, hbq.output, hbq.size, hbq.block⟩
  have c5q : wq.cell? ⟨nb R[b].id, 5, none⟩ = some (.pointer po) := (hbq.cell (p := ⟨nb R[b].id, 5, none⟩) ltB).trans c5
  have hneq : ∀ n, (binOp .neq 112 (.pointer po) (.pointer (some ⟨nb R[t].id, 0, none⟩))).run Tryz.prog (wq.drewN n) = .ok (.bool true) (wq.drewN n) := fun n => HNe.out _ ⟨hbq.os, hbq.tape, hbq.output, hbq.size, hbq.block⟩
  have HBq := hide hbq
  clear hwq hbq lkn lkt lkb heqr
  go_big_quiet (fail)
  go_wp2_with fail
  go_ret
  exact ⟨rfl, belowD HBq.out _⟩
set_option maxHeartbeats 2000000 in
set_option maxRecDepth 100000 in
theorem pins_ok0 (ρ : Roles) (nb : Int → Nat) (mb : Nat) (w : World) (q : Nat) (R : List RN) (last : Int) (h : Dom ρ nb mb (some (nb 1)) w q R last) (kd id pa ky : Int) (tg nm tx : ByteArray) (hI : Ids R) (rk : Int → Nat) (hU : Up R rk) (k : Nat) (hk : k < R.length) (hid : I64 R[k].id) (hidk : R[k].id = id) (r : Nat) (hr : r < R.length) (hr1 : R[r].id = 1) (hne1 : R[k].id ≠ 1) (t : Nat) (ht : t < R.length) (hpa : I64 R[t].id) (hidt : R[t].id = pa) (htag : R[t].tag.toList.isEmpty = false) (hin : inP R (rk R[t].id + 1) R[t].id R[k].id = false) (hnt : R[t].id ≠ R[k].id) (hno0 : ∀ n, n ∈ R → n.id ≠ 0) :
    Calls Tryz.prog 87 #[.pointer (some ⟨q, 0, none⟩), .agg #[.int .i64 kd, .int .i64 id, .int .i64 pa, .int .i64 0, .int .i64 ky, .string tg, .string nm, .string tx]] w fun e w' => e = .returned (.bool true) ∧ ∃ ρ', Wrote ρ ρ' w w' ∧ Dom ρ' nb mb (some (nb 1)) w' q (insP R { R[k] with par := R[t].id } k 0) last := by
  subst hidk
  obtain ⟨avn, kvn, hPn⟩ := h.node _ (List.getElem_mem hk)
  obtain ⟨avr, kvr, hPr⟩ := h.node _ (List.getElem_mem hr)
  subst hidt
  obtain ⟨avt, kvt, hPt⟩ := h.node _ (List.getElem_mem ht)
  have d1 : w.cell? ⟨q, 1, none⟩ = some (.map (some mb)) := cell_of_blk h.blk 1 _ rfl
  have ltq := lt_of_blk h.blk
  have d0 : w.cell? ⟨q, 0, none⟩ = some (.pointer (some ⟨nb 1, 0, none⟩)) := cell_of_blk h.blk 0 _ rfl
  have Hlkn : Hid (∀ w1, Below w.heap.size w w1 → (Instr.lookup 111 (.map (some mb)) (.int .i64 R[k].id) false).run Tryz.prog w1 = .ok (.pointer (some ⟨nb R[k].id, 0, none⟩)) w1) := hide fun w1 hbw => by
    have := (h.below hbw).map.look hid
    rw [blkOf_yes (List.getElem_mem hk)] at this
    exact this
  have Hlkt : Hid (∀ w1, Below w.heap.size w w1 → (Instr.lookup 111 (.map (some mb)) (.int .i64 R[t].id) false).run Tryz.prog w1 = .ok (.pointer (some ⟨nb R[t].id, 0, none⟩)) w1) := hide fun w1 hbw => by
    have := (h.below hbw).map.look hpa
    rw [blkOf_yes (List.getElem_mem ht)] at this
    exact this
  have Hlkb : Hid (∀ w1, Below w.heap.size w w1 → (Instr.lookup 111 (.map (some mb)) (.int .i64 0) false).run Tryz.prog w1 = .ok (.pointer none) w1) := hide fun w1 hbw => by
    have := (h.below hbw).map.look (i := 0) ⟨by decide, by decide⟩
    rw [blkOf_no hno0] at this
    exact this
  have HEr : Hid (∀ w1, Below w.heap.size w w1 → (binOp .eql 112 (.pointer (some ⟨nb R[k].id, 0, none⟩)) (.pointer (some ⟨nb 1, 0, none⟩))).run Tryz.prog w1 = .ok (.bool false) w1) := hide fun w1 hb => by
    have h1 : Plain w1 (nb R[k].id) := ⟨_, _, (hb.block _ hPn.lt).trans hPn.blk⟩
    have h2 : Plain w1 (nb 1) := by rw [← hr1]; exact ⟨_, _, (hb.block _ hPr.lt).trans hPr.blk⟩
    rw [run_eql_ptr h1 h2]
    have : (nb R[k].id == nb 1) = false := by
      rw [beq_eq_false_iff_ne, ← hr1]
      exact fun e => hne1 ((hPn.nb_inj hPr e).trans hr1)
    rw [this]
  have HEl : Hid (∀ w1, Below w.heap.size w w1 → Calls Tryz.prog 102 #[.pointer (some ⟨nb R[t].id, 0, none⟩)] w1 fun e w' => e = .returned (.bool true) ∧ w1 = w') := hide fun w1 hb => by
    have := isElem_any (hPt.kept (R' := R) (w' := w1) (ρ' := ρ) (fun b j e => hb.block b (h.low b (by rw [e]; rfl))) (fun _ _ => rfl) rfl)
    rw [htag] at this
    exact this.mono fun _ _ h => ⟨h.1, h.2.symm⟩
  have HIn : Hid (∀ w1, Below w.heap.size w w1 → Calls Tryz.prog 103 #[.pointer (some ⟨nb R[t].id, 0, none⟩), .pointer (some ⟨nb R[k].id, 0, none⟩)] w1 fun e w' => e = .returned (.bool false) ∧ w1 = w') := hide fun w1 hb => by
    have := isIn_any ρ nb mb _ w1 q R last (h.below hb) hI rk hU t k ht hk
    rw [hin] at this
    exact this.mono fun _ _ h => ⟨h.1, h.2.symm⟩
  have HLv : Hid (∀ w1, Below w.heap.size w w1 → Calls Tryz.prog 104 #[.pointer (some ⟨nb R[k].id, 0, none⟩)] w1 fun e w' => e = .returned (.tuple #[]) ∧ ∃ ρ', Wrote ρ ρ' w1 w' ∧ Dom ρ' nb mb (some (nb 1)) w' q (looseP R k) last) := hide fun w1 hw => leave_any ρ nb mb _ w1 q R last (h.below hw) hI ⟨rk, hU⟩ k hk
  have HTk : Hid (∀ (ρ1 : Roles) (w1 : World), Dom ρ1 nb mb (some (nb 1)) w1 q (looseP R k) last → Calls Tryz.prog 44 #[.pointer (some ⟨nb R[t].id, 0, none⟩), .pointer (some ⟨nb R[k].id, 0, none⟩), .pointer none] w1 fun e w' => e = .returned (.tuple #[]) ∧ ∃ ρ', Wrote ρ1 ρ' w1 w' ∧ Dom ρ' nb mb (some (nb 1)) w' q (insP R { R[k] with par := R[t].id } k 0) last) := hide fun ρ1 w1 hd => take_loose0 hd hI hk ht hnt
  clear h hPn hPr hPt hr1 hne1
  go_enter Tryz.func87, Tryz.ntmps87
  go_wp2_with fail
  generalize hw0 : w.alloc (.cells #[.int .i64 kd, .int .i64 R[k].id, .int .i64 R[t].id, .int .i64 0, .int .i64 ky, .string tg, .string nm, .string tx] 29) = w0
  have hb0 : Below w.heap.size w w0 := by rw [← hw0]; exact (Below.refl _ _).alloc (Nat.le_refl _) _
  have lt0 : w.heap.size < w0.heap.size := by rw [← hw0]; simp
  have x1 : w0.cell? ⟨w.heap.size, 1, none⟩ = some (.int .i64 R[k].id) := by rw [← hw0]; simp [go_sem]
  have x2 : w0.cell? ⟨w.heap.size, 2, none⟩ = some (.int .i64 R[t].id) := by rw [← hw0]; simp [go_sem]
  have x3 : w0.cell? ⟨w.heap.size, 3, none⟩ = some (.int .i64 0) := by rw [← hw0]; simp [go_sem]
  have y1 : w0.cell? ⟨q, 1, none⟩ = some (.map (some mb)) := (hb0.cell (p := ⟨q, 1, none⟩) ltq).trans d1
  have y0 : w0.cell? ⟨q, 0, none⟩ = some (.pointer (some ⟨nb 1, 0, none⟩)) := (hb0.cell (p := ⟨q, 0, none⟩) ltq).trans d0
  have lkn : ∀ n, (Instr.lookup 111 (.map (some mb)) (.int .i64 R[k].id) false).run Tryz.prog (w0.drewN n) = .ok (.pointer (some ⟨nb R[k].id, 0, none⟩)) (w0.drewN n) := fun n => Hlkn.out _ ⟨hb0.os, hb0.tape, hb0.output, hb0.size, hb0.block⟩
  have lkt : ∀ n, (Instr.lookup 111 (.map (some mb)) (.int .i64 R[t].id) false).run Tryz.prog (w0.drewN n) = .ok (.pointer (some ⟨nb R[t].id, 0, none⟩)) (w0.drewN n) := fun n => Hlkt.out _ ⟨hb0.os, hb0.tape, hb0.output, hb0.size, hb0.block⟩
  have lkb : ∀ n, (Instr.lookup 111 (.map (some mb)) (.int .i64 0) false).run Tryz.prog (w0.drewN n) = .ok (.pointer none) (w0.drewN n) := fun n => Hlkb.out _ ⟨hb0.os, hb0.tape, hb0.output, hb0.size, hb0.block⟩
  have heqr : ∀ n, (binOp .eql 112 (.pointer (some ⟨nb R[k].id, 0, none⟩)) (.pointer (some ⟨nb 1, 0, none⟩))).run Tryz.prog (w0.drewN n) = .ok (.bool false) (w0.drewN n) := fun n => HEr.out _ ⟨hb0.os, hb0.tape, hb0.output, hb0.size, hb0.block⟩
  have HB0 := hide hb0
  clear hw0 hb0 d1 d0
  go_big_quiet (fail)
  go_wp2_with (first | (go_at_call 102; refine (unhide HEl _ (belowD (unhide HB0) _)).mono ?_; rintro e w1 ⟨rfl, rfl⟩) | (go_at_call 103; refine (unhide HIn _ (belowD (unhide HB0) _)).mono ?_; rintro e w1 ⟨rfl, rfl⟩))
  generalize hwq : w0.drewN nq = wq
  have hbq : Below w.heap.size w wq := by rw [← hwq]; exact belowD HB0.out _
  have x3q : wq.cell? ⟨w.heap.size, 3, none⟩ = some (.int .i64 0) := by rw [← hwq]; exact x3
  have y1q : wq.cell? ⟨q, 1, none⟩ = some (.map (some mb)) := by rw [← hwq]; exact y1
  have lkbq : ∀ n, (Instr.lookup 111 (.map (some mb)) (.int .i64 0) false).run Tryz.prog (wq.drewN n) = .ok (.pointer none) (wq.drewN n) := fun n => Hlkb.out _ ⟨hbq.os, hbq.tape, hbq.output, hbq.size, hbq.block⟩
  have HBq := hide hbq
  clear hwq hbq lkn lkt lkb heqr
  go_big_quiet (fail)
  go_wp2_with (first | (go_at_call 104; refine (unhide HLv _ (belowD (unhide HBq) _)).mono ?_; rintro e w1 ⟨rfl, ρ1, hw1, hd1⟩; have HW1 := hide (Wrote.after (belowD (unhide HBq) _) hw1); have HD1 := hide hd1; clear hw1 hd1) | (go_at_call 44; refine (unhide HTk _ _ (unhide HD1)).mono ?_; rintro e w2 ⟨rfl, ρ2, hw2, hd2⟩; have HW2 := hide hw2; have HD2 := hide hd2; clear hw2 hd2))
  go_ret
  exact ⟨rfl, ρ2, HW1.out.trans HW2.out, HD2.out⟩
set_option maxHeartbeats 2000000 in
set_option maxRecDepth 100000 in
theorem pins_ok1 (ρ : Roles) (nb : Int → Nat) (mb : Nat) (w : World) (q : Nat) (R : List RN) (last : Int) (h : Dom ρ nb mb (some (nb 1)) w q R last) (kd id pa bf ky : Int) (tg nm tx : ByteArray) (hI : Ids R) (rk : Int → Nat) (hU : Up R rk) (k : Nat) (hk : k < R.length) (hid : I64 R[k].id) (hidk : R[k].id = id) (r : Nat) (hr : r < R.length) (hr1 : R[r].id = 1) (hne1 : R[k].id ≠ 1) (t : Nat) (ht : t < R.length) (hpa : I64 R[t].id) (hidt : R[t].id = pa) (htag : R[t].tag.toList.isEmpty = false) (hin : inP R (rk R[t].id + 1) R[t].id R[k].id = false) (hnt : R[t].id ≠ R[k].id) (b : Nat) (hb : b < R.length) (hbf : I64 R[b].id) (hidb : R[b].id = bf) (hbk : R[b].id ≠ R[k].id) (hbz : R[b].id ≠ 0) (hbp : R[b].par = R[t].id) :
    Calls Tryz.prog 87 #[.pointer (some ⟨q, 0, none⟩), .agg #[.int .i64 kd, .int .i64 id, .int .i64 pa, .int .i64 bf, .int .i64 ky, .string tg, .string nm, .string tx]] w fun e w' => e = .returned (.bool true) ∧ ∃ ρ', Wrote ρ ρ' w w' ∧ Dom ρ' nb mb (some (nb 1)) w' q (insP R { R[k] with par := R[t].id } k R[b].id) last := by
  subst hidk
  obtain ⟨avn, kvn, hPn⟩ := h.node _ (List.getElem_mem hk)
  obtain ⟨avr, kvr, hPr⟩ := h.node _ (List.getElem_mem hr)
  subst hidt
  obtain ⟨avt, kvt, hPt⟩ := h.node _ (List.getElem_mem ht)
  subst hidb
  obtain ⟨avb, kvb, hPb⟩ := h.node _ (List.getElem_mem hb)
  have d1 : w.cell? ⟨q, 1, none⟩ = some (.map (some mb)) := cell_of_blk h.blk 1 _ rfl
  have ltq := lt_of_blk h.blk
  have d0 : w.cell? ⟨q, 0, none⟩ = some (.pointer (some ⟨nb 1, 0, none⟩)) := cell_of_blk h.blk 0 _ rfl
  have Hlkn : Hid (∀ w1, Below w.heap.size w w1 → (Instr.lookup 111 (.map (some mb)) (.int .i64 R[k].id) false).run Tryz.prog w1 = .ok (.pointer (some ⟨nb R[k].id, 0, none⟩)) w1) := hide fun w1 hbw => by
    have := (h.below hbw).map.look hid
    rw [blkOf_yes (List.getElem_mem hk)] at this
    exact this
  have Hlkt : Hid (∀ w1, Below w.heap.size w w1 → (Instr.lookup 111 (.map (some mb)) (.int .i64 R[t].id) false).run Tryz.prog w1 = .ok (.pointer (some ⟨nb R[t].id, 0, none⟩)) w1) := hide fun w1 hbw => by
    have := (h.below hbw).map.look hpa
    rw [blkOf_yes (List.getElem_mem ht)] at this
    exact this
  have Hlkb : Hid (∀ w1, Below w.heap.size w w1 → (Instr.lookup 111 (.map (some mb)) (.int .i64 R[b].id) false).run Tryz.prog w1 = .ok (.pointer (some ⟨nb R[b].id, 0, none⟩)) w1) := hide fun w1 hbw => by
    have := (h.below hbw).map.look hbf
    rw [blkOf_yes (List.getElem_mem hb)] at this
    exact this
  have HEr : Hid (∀ w1, Below w.heap.size w w1 → (binOp .eql 112 (.pointer (some ⟨nb R[k].id, 0, none⟩)) (.pointer (some ⟨nb 1, 0, none⟩))).run Tryz.prog w1 = .ok (.bool false) w1) := hide fun w1 hb => by
    have h1 : Plain w1 (nb R[k].id) := ⟨_, _, (hb.block _ hPn.lt).trans hPn.blk⟩
    have h2 : Plain w1 (nb 1) := by rw [← hr1]; exact ⟨_, _, (hb.block _ hPr.lt).trans hPr.blk⟩
    rw [run_eql_ptr h1 h2]
    have : (nb R[k].id == nb 1) = false := by
      rw [beq_eq_false_iff_ne, ← hr1]
      exact fun e => hne1 ((hPn.nb_inj hPr e).trans hr1)
    rw [this]
  have HEl : Hid (∀ w1, Below w.heap.size w w1 → Calls Tryz.prog 102 #[.pointer (some ⟨nb R[t].id, 0, none⟩)] w1 fun e w' => e = .returned (.bool true) ∧ w1 = w') := hide fun w1 hb => by
    have := isElem_any (hPt.kept (R' := R) (w' := w1) (ρ' := ρ) (fun b j e => hb.block b (h.low b (by rw [e]; rfl))) (fun _ _ => rfl) rfl)
    rw [htag] at this
    exact this.mono fun _ _ h => ⟨h.1, h.2.symm⟩
  have HIn : Hid (∀ w1, Below w.heap.size w w1 → Calls Tryz.prog 103 #[.pointer (some ⟨nb R[t].id, 0, none⟩), .pointer (some ⟨nb R[k].id, 0, none⟩)] w1 fun e w' => e = .returned (.bool false) ∧ w1 = w') := hide fun w1 hb => by
    have := isIn_any ρ nb mb _ w1 q R last (h.below hb) hI rk hU t k ht hk
    rw [hin] at this
    exact this.mono fun _ _ h => ⟨h.1, h.2.symm⟩
  have HEs : Hid (∀ w1, Below w.heap.size w w1 → (binOp .eql 112 (.pointer (some ⟨nb R[b].id, 0, none⟩)) (.pointer (some ⟨nb R[k].id, 0, none⟩))).run Tryz.prog w1 = .ok (.bool false) w1) := hide fun w1 hw => by
    have h1 : Plain w1 (nb R[k].id) := ⟨_, _, (hw.block _ hPn.lt).trans hPn.blk⟩
    have h2 : Plain w1 (nb R[b].id) := ⟨_, _, (hw.block _ hPb.lt).trans hPb.blk⟩
    rw [run_eql_ptr h2 h1]
    have : (nb R[b].id == nb R[k].id) = false := by
      rw [beq_eq_false_iff_ne]
      exact fun e => hbk (hPb.nb_inj hPn e)
    rw [this]
  have c5 : w.cell? ⟨nb R[b].id, 5, none⟩ = some (parPtr nb R[b].par) := cell_of_blk hPb.blk 5 _ rfl
  have ltB := hPb.lt
  have HNe : Hid (∀ w1, Below w.heap.size w w1 → (binOp .neq 112 (parPtr nb R[b].par) (.pointer (some ⟨nb R[t].id, 0, none⟩))).run Tryz.prog w1 = .ok (.bool false) w1) := hide fun w1 hw => by
    have hpt := hI.pos _ (List.getElem_mem ht)
    have h2 : Plain w1 (nb R[t].id) := ⟨_, _, (hw.block _ hPt.lt).trans hPt.blk⟩
    unfold parPtr
    rw [hbp, if_neg (by omega), run_neq_ptr h2 h2]
    simp
  obtain ⟨po, hpo⟩ : ∃ po, parPtr nb R[b].par = .pointer po := by
    unfold parPtr
    split
    · exact ⟨_, rfl⟩
    · exact ⟨_, rfl⟩
  rw [hpo] at HNe c5
  clear hpo
  have HLv : Hid (∀ w1, Below w.heap.size w w1 → Calls Tryz.prog 104 #[.pointer (some ⟨nb R[k].id, 0, none⟩)] w1 fun e w' => e = .returned (.tuple #[]) ∧ ∃ ρ', Wrote ρ ρ' w1 w' ∧ Dom ρ' nb mb (some (nb 1)) w' q (looseP R k) last) := hide fun w1 hw => leave_any ρ nb mb _ w1 q R last (h.below hw) hI ⟨rk, hU⟩ k hk
  have HTk : Hid (∀ (ρ1 : Roles) (w1 : World), Dom ρ1 nb mb (some (nb 1)) w1 q (looseP R k) last → Calls Tryz.prog 44 #[.pointer (some ⟨nb R[t].id, 0, none⟩), .pointer (some ⟨nb R[k].id, 0, none⟩), .pointer (some ⟨nb R[b].id, 0, none⟩)] w1 fun e w' => e = .returned (.tuple #[]) ∧ ∃ ρ', Wrote ρ1 ρ' w1 w' ∧ Dom ρ' nb mb (some (nb 1)) w' q (insP R { R[k] with par := R[t].id } k R[b].id) last) := hide fun ρ1 w1 hd => take_loose1 hd hI hk ht hnt hb (fun e => hbk (by subst e; rfl)) hbp
  clear h hPn hPr hPt hPb hr1 hne1 hbk hbp hnt
  go_enter Tryz.func87, Tryz.ntmps87
  go_wp2_with fail
  generalize hw0 : w.alloc (.cells #[.int .i64 kd, .int .i64 R[k].id, .int .i64 R[t].id, .int .i64 R[b].id, .int .i64 ky, .string tg, .string nm, .string tx] 29) = w0
  have hb0 : Below w.heap.size w w0 := by rw [← hw0]; exact (Below.refl _ _).alloc (Nat.le_refl _) _
  have lt0 : w.heap.size < w0.heap.size := by rw [← hw0]; simp
  have x1 : w0.cell? ⟨w.heap.size, 1, none⟩ = some (.int .i64 R[k].id) := by rw [← hw0]; simp [go_sem]
  have x2 : w0.cell? ⟨w.heap.size, 2, none⟩ = some (.int .i64 R[t].id) := by rw [← hw0]; simp [go_sem]
  have x3 : w0.cell? ⟨w.heap.size, 3, none⟩ = some (.int .i64 R[b].id) := by rw [← hw0]; simp [go_sem]
  have y1 : w0.cell? ⟨q, 1, none⟩ = some (.map (some mb)) := (hb0.cell (p := ⟨q, 1, none⟩) ltq).trans d1
  have y0 : w0.cell? ⟨q, 0, none⟩ = some (.pointer (some ⟨nb 1, 0, none⟩)) := (hb0.cell (p := ⟨q, 0, none⟩) ltq).trans d0
  have lkn : ∀ n, (Instr.lookup 111 (.map (some mb)) (.int .i64 R[k].id) false).run Tryz.prog (w0.drewN n) = .ok (.pointer (some ⟨nb R[k].id, 0, none⟩)) (w0.drewN n) := fun n => Hlkn.out _ ⟨hb0.os, hb0.tape, hb0.output, hb0.size, hb0.block⟩
  have lkt : ∀ n, (Instr.lookup 111 (.map (some mb)) (.int .i64 R[t].id) false).run Tryz.prog (w0.drewN n) = .ok (.pointer (some ⟨nb R[t].id, 0, none⟩)) (w0.drewN n) := fun n => Hlkt.out _ ⟨hb0.os, hb0.tape, hb0.output, hb0.size, hb0.block⟩
  have lkb : ∀ n, (Instr.lookup 111 (.map (some mb)) (.int .i64 R[b].id) false).run Tryz.prog (w0.drewN n) = .ok (.pointer (some ⟨nb R[b].id, 0, none⟩)) (w0.drewN n) := fun n => Hlkb.out _ ⟨hb0.os, hb0.tape, hb0.output, hb0.size, hb0.block⟩
  have heqr : ∀ n, (binOp .eql 112 (.pointer (some ⟨nb R[k].id, 0, none⟩)) (.pointer (some ⟨nb 1, 0, none⟩))).run Tryz.prog (w0.drewN n) = .ok (.bool false) (w0.drewN n) := fun n => HEr.out _ ⟨hb0.os, hb0.tape, hb0.output, hb0.size, hb0.block⟩
  have HB0 := hide hb0
  clear hw0 hb0 d1 d0
  go_big_quiet (fail)
  go_wp2_with (first | (go_at_call 102; refine (unhide HEl _ (belowD (unhide HB0) _)).mono ?_; rintro e w1 ⟨rfl, rfl⟩) | (go_at_call 103; refine (unhide HIn _ (belowD (unhide HB0) _)).mono ?_; rintro e w1 ⟨rfl, rfl⟩))
  generalize hwq : w0.drewN nq = wq
  have hbq : Below w.heap.size w wq := by rw [← hwq]; exact belowD HB0.out _
  have x3q : wq.cell? ⟨w.heap.size, 3, none⟩ = some (.int .i64 R[b].id) := by rw [← hwq]; exact x3
  have y1q : wq.cell? ⟨q, 1, none⟩ = some (.map (some mb)) := by rw [← hwq]; exact y1
  have lkbq : ∀ n, (Instr.lookup 111 (.map (some mb)) (.int .i64 R[b].id) false).run Tryz.prog (wq.drewN n) = .ok (.pointer (some ⟨nb R[b].id, 0, none⟩)) (wq.drewN n) := fun n => Hlkb.out _ ⟨hbq.os, hbq.tape, hbq.output, hbq.size, hbq.block⟩
  have heqs : ∀ n, (binOp .eql 112 (.pointer (some ⟨nb R[b].id, 0, none⟩)) (.pointer (some ⟨nb R[k].id, 0, none⟩))).run Tryz.prog (wq.drewN n) = .ok (.bool false) (wq.drewN n) := fun n => HEs.out _ ⟨hbq.os, hbq.tape, hbq.output, hbq.size, hbq.block⟩
  have c5q : wq.cell? ⟨nb R[b].id, 5, none⟩ = some (.pointer po) := (hbq.cell (p := ⟨nb R[b].id, 5, none⟩) ltB).trans c5
  have hneq : ∀ n, (binOp .neq 112 (.pointer po) (.pointer (some ⟨nb R[t].id, 0, none⟩))).run Tryz.prog (wq.drewN n) = .ok (.bool false) (wq.drewN n) := fun n => HNe.out _ ⟨hbq.os, hbq.tape, hbq.output, hbq.size, hbq.block⟩
  have HBq := hide hbq
  clear hwq hbq lkn lkt lkb heqr
  go_big_quiet (fail)
  go_wp2_with (first | (go_at_call 104; refine (unhide HLv _ (belowD (unhide HBq) _)).mono ?_; rintro e w1 ⟨rfl, ρ1, hw1, hd1⟩; have HW1 := hide (Wrote.after (belowD (unhide HBq) _) hw1); have HD1 := hide hd1; clear hw1 hd1) | (go_at_call 44; refine (unhide HTk _ _ (unhide HD1)).mono ?_; rintro e w2 ⟨rfl, ρ2, hw2, hd2⟩; have HW2 := hide hw2; have HD2 := hide hd2; clear hw2 hd2))
  go_ret
  exact ⟨rfl, ρ2, HW1.out.trans HW2.out, HD2.out⟩
end Go.Proofs.YtobgcaemnpkbmaaGreat
