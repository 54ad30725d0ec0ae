/- Fa Fb Fc Fd -/
import Derived.Test.YtobgcaemnpkbmaaMd04
import Derived.WideKeyEntry
import Derived.DeepKeys4
import Derived.Test.YtobgcaemnpkbmaaMd03
import Derived.Test.YtobgcaemnpkbmaaMd12
import Derived.Handy
import Derived.Test.YtobgcaemnpkbmaaMd22
namespace Go.Proofs.Ytobgcaemnpkbmaa
open Go.RowKit
open Go.Maps (Keyed)
theorem laid0 : laidOutB Try.prog = true := by kernel_rfl
theorem likeRow : (123 : TypeId) < Try.prog.types.size := of_decide_eq_true (by kernel_rfl)
theorem likeWide : (match Try.prog.underlying 123 with | some (.array _ _) | some (.struct _) => true | _ => false) = true := by kernel_rfl
set_option maxRecDepth 100000 in
theorem likeLaw : WideMaps.KeyLaw Try.prog 123 := deep_law_laid laid0 (m := 2) (by omega) likeRow (by kernel_rfl) likeWide
theorem likeKeyed : Keyed Try.prog 123 := Keyed.of_law likeLaw
structure LK where
  tag : ByteArray
  key : Int
  ahead : Int
  deriving DecidableEq
def LK.val (x : LK) : Value := .agg #[.string x.tag, .int .i64 x.key, .int .i64 x.ahead]
structure LK.Ok (x : LK) : Prop where
  tag : x.tag.size ≤ maxLen
  key : I64 x.key
  ahead : I64 x.ahead
theorem likeType : Try.prog.keyType 123 = true := by kernel_rfl
theorem likeCells : Try.prog.cellsOf 123 = 3 := by kernel_rfl
theorem cells1Int : Try.prog.cellsOf 3 = 1 := by kernel_rfl
theorem cells1Str : Try.prog.cellsOf 9 = 1 := by kernel_rfl
theorem typesPos : ∃ d, Try.prog.types.size = d + 1 := ⟨Try.prog.types.size - 1, by have h : (123 : Nat) < Try.prog.types.size := likeRow; omega⟩
theorem like_key (x : LK) (h : x.Ok) : ∃ l, keyOf Try.prog 123 x.val = some l := by
  obtain ⟨d, hd⟩ := typesPos
  have h1 := wf_of h.key
  have h2 := wf_of h.ahead
  have h3 := h.tag
  refine ⟨.string (keyBytes [.string x.tag.data.toList, .int .i64 x.key, .int .i64 x.ahead]), ?_⟩
  have hk : Try.prog.keyLits (d + 1 + 1) 123 [.string x.tag, .int .i64 x.key, .int .i64 x.ahead] = some [.string x.tag.data.toList, .int .i64 x.key, .int .i64 x.ahead] := by
    unfold Program.keyLits
    simp only [Try.underlying123]
    simp [likeCells, cells1Int, cells1Str, Program.keyLits, Try.underlying3, Try.underlying9, h1, h2, h3]
  unfold keyOf LK.val
  simp only [Try.underlying123, likeType, Value.formed, likeCells, Value.cells, hd]
  simp [hk]
noncomputable def LK.lit (x : LK) : Lit := (keyOf Try.prog 123 x.val).getD (.bool false)
theorem LK.keyOf {x : LK} (h : x.Ok) : keyOf Try.prog 123 x.val = some x.lit := by
  obtain ⟨l, hl⟩ := like_key x h
  unfold LK.lit
  rw [hl]; rfl
theorem LK.inj {x y : LK} (hx : x.Ok) (hy : y.Ok) (e : x.lit = y.lit) : x = y := by
  have h1 := LK.keyOf hx
  have h2 := LK.keyOf hy
  rw [e] at h1
  have := likeKeyed.inj h1 h2
  unfold LK.val at this
  obtain ⟨a, b, c⟩ := x
  obtain ⟨a', b', c'⟩ := y
  simp at this
  obtain ⟨rfl, rfl, rfl⟩ := this
  rfl
def LMap (w : World) (mb : Nat) (f : LK → Option Int) (N : Nat) : Prop :=
  ∃ D : DataW Value, w.ownsMap Try.prog 123 heldElem mb N D ∧ ∀ x : LK, x.Ok → Go.Maps.has D x.lit = (f x).isSome ∧ D.atKey x.lit (.held (.int .i64 0)) = .held (.int .i64 ((f x).getD 0))
theorem LMap.heap {w w' : World} {mb : Nat} {f : LK → Option Int} {N : Nat} (h : LMap w mb f N) (hb : w'.heap[mb]? = w.heap[mb]?) : LMap w' mb f N := by
  obtain ⟨D, ⟨es, clock, h1, h2⟩, hf⟩ := h
  exact ⟨D, ⟨es, clock, hb.trans h1, h2⟩, hf⟩
theorem LMap.lt {w : World} {mb : Nat} {f : LK → Option Int} {N : Nat} (h : LMap w mb f N) : mb < w.heap.size := by obtain ⟨D, h, _⟩ := h; exact h.lt
theorem LMap.made (w : World) : LMap (w.alloc (.map #[] 0)) w.heap.size (fun _ => none) 0 :=
  ⟨.map [], World.ownsMap_made w _ _ _, fun _x _ => ⟨rfl, rfl⟩⟩
theorem LMap.look {w : World} {mb : Nat} {f : LK → Option Int} {N : Nat} (h : LMap w mb f N) {x : LK} (hx : x.Ok) : (Instr.lookup 121 (.map (some mb)) x.val false).run Try.prog w = .ok (.int .i64 ((f x).getD 0)) w := by
  obtain ⟨D, hD, hf⟩ := h
  obtain ⟨v, ps, hr, hv⟩ := hD.lookup likeKeyed Try.underlying121 (Try.zeroValue3 w) (zd := .held (.int .i64 0)) (zp := []) rfl (LK.keyOf hx)
  rw [(hf x hx).2] at hv
  unfold heldElem at hv
  simp at hv
  rw [hr, hv.1]
theorem LMap.look2 {w : World} {mb : Nat} {f : LK → Option Int} {N : Nat} (h : LMap w mb f N) {x : LK} (hx : x.Ok) : (Instr.lookup 121 (.map (some mb)) x.val true).run Try.prog w = .ok (.tuple #[.int .i64 ((f x).getD 0), .bool (f x).isSome]) w := by
  obtain ⟨D, hD, hf⟩ := h
  obtain ⟨v, ps, hr, hv⟩ := hD.look_ok likeKeyed Try.underlying121 (Try.zeroValue3 w) (zd := .held (.int .i64 0)) (zp := []) rfl (LK.keyOf hx)
  rw [(hf x hx).2] at hv
  unfold heldElem at hv
  simp at hv
  rw [hr, hv.1, (hf x hx).1]
def putF (f : LK → Option Int) (x : LK) (v : Int) : LK → Option Int := fun y => if y = x then some v else f y
set_option maxRecDepth 100000 in
theorem LMap.put {w w' : World} {mb : Nat} {f : LK → Option Int} {N : Nat} {D : DataW Value} (hD : w.ownsMap Try.prog 123 heldElem mb N D) (hf : ∀ x : LK, x.Ok → Go.Maps.has D x.lit = (f x).isSome ∧ D.atKey x.lit (.held (.int .i64 0)) = .held (.int .i64 ((f x).getD 0))) {x : LK} (hx : x.Ok) {v : Int} (ho : w'.ownsMap Try.prog 123 heldElem mb (N + 1) (D.put x.lit (.held (.int .i64 v)))) : LMap w' mb (putF f x v) (N + 1) := by
  refine ⟨_, ho, fun y hy => ?_⟩
  unfold putF
  by_cases e : y = x
  · subst e
    have hk : WideAt.IsKeyLit y.lit := likeKeyed.key (LK.keyOf hy)
    rw [if_pos rfl, Go.Maps.has_put_same (k := y.lit) hD.isMap hk, Go.Maps.atKey_put_same (k := y.lit) hD.isMap hk]
    exact ⟨rfl, rfl⟩
  · have hne : y.lit ≠ x.lit := fun e2 => e (LK.inj hy hx e2)
    rw [if_neg e, Go.Maps.has_put_other hne, Go.Maps.atKey_put_other hne]
    exact hf y hy
set_option maxRecDepth 100000 in
theorem LMap.update {w : World} {mb : Nat} {f : LK → Option Int} {N : Nat} (h : LMap w mb f N) (hN : N < maxLen) {x : LK} (hx : x.Ok) (v : Int) :
    ∃ w', (Instr.mapUpdate 121 (.map (some mb)) x.val (.int .i64 v)).run Try.prog w = .ok () w' ∧ LMap w' mb (putF f x v) (N + 1) ∧ w.grownBy w' (some mb) ∧ w'.heap.size = w.heap.size := by
  obtain ⟨D, hD, hf⟩ := h
  obtain ⟨w', hrun, r1, r2⟩ := hD.store likeKeyed Try.underlying121 hN (LK.keyOf hx) (val := .int .i64 v) (d := .held (.int .i64 v)) (ps := []) rfl
  refine ⟨w', hrun, LMap.put hD hf hx r1, r2.grown, ?_⟩
  obtain ⟨es, cl, es', cl', _, rfl⟩ := r2
  simp [Go.ChangeMaps.setBlock]
end Go.Proofs.Ytobgcaemnpkbmaa
namespace Go.Proofs.Ytobgcaemnpkbmaa
open Go.RowKit
open Go.Maps (Keyed)
open Go.ChangeMaps (setBlock heap_setBlock_same)
set_option maxRecDepth 100000 in
theorem LMap.entry {w : World} {mb : Nat} {f : LK → Option Int} {N : Nat} (h : LMap w mb f N) (hN : N < maxLen) {x : LK} (hx : x.Ok) :
    ∃ r st w1, (Instr.mapEntry 121 (.map (some mb)) x.val).run Try.prog w = .ok (.tuple #[r, goInt st]) w1 ∧ (∃ f1, LMap w1 mb f1 (N + 1) ∧ (f1 x).getD 0 = (f x).getD 0) ∧ w.grownBy w1 (some mb) ∧ w1.heap.size = w.heap.size ∧
      ∀ (w2 : World) (v : Int), w2.heap[mb]? = w1.heap[mb]? → ∃ w3, (Instr.entryStore 121 (.map (some mb)) (goInt st) (.int .i64 v)).run Try.prog w2 = .ok () w3 ∧ LMap w3 mb (putF f x v) (N + 1) ∧ w2.grownBy w3 (some mb) ∧ w3.heap.size = w2.heap.size := by
  have h' := h
  obtain ⟨D, ⟨es, clock, hb, F, hs, hD⟩, hf⟩ := h
  obtain ⟨r, st, es1, clock1, hrun, hcase, hst⟩ := WideElems.entry_then_store likeLaw Try.underlying121 (fun u => Try.zeroValue3 u) hb F (LK.keyOf hx)
  have hg1 : w.grownBy (setBlock w mb (.map es1 clock1)) (some mb) := (World.mapTurned.grown ⟨es, clock, es1, clock1, hb, rfl⟩)
  have hs1 : (setBlock w mb (.map es1 clock1)).heap.size = w.heap.size := by simp [setBlock]
  refine ⟨r, st, setBlock w mb (.map es1 clock1), hrun, ?_, hg1, hs1, fun w2 v hw2 => ?_⟩
  · rcases likeLaw.find w (LK.keyOf hx) es.toList F.keys with ⟨h1, h2⟩ | ⟨j, e0, h1, h2, h3⟩
    · -- not found: as if 0 were put
      have hE : (Instr.mapEntry 121 (.map (some mb)) x.val).run Try.prog w = .ok (.tuple #[.int .i64 0, goInt clock]) (setBlock w mb (.map (es.push ⟨x.val, .int .i64 0, clock⟩) (clock + 1))) := by
        simp [Instr.mapEntry, run_underlying Try.underlying121, MapKept.run_getObj_map hb, likeLaw.check w false (LK.keyOf hx), h1, Try.zeroValue3, MapKept.run_setObj_map _ hb, Result.andThen, setBlock]
      have hU : (Instr.mapUpdate 121 (.map (some mb)) x.val (.int .i64 0)).run Try.prog w = .ok () (setBlock w mb (.map (es.push ⟨x.val, .int .i64 0, clock⟩) (clock + 1))) := by
        simp [Instr.mapUpdate, run_underlying Try.underlying121, MapKept.run_getObj_map hb, likeLaw.check w false (LK.keyOf hx), h1, MapKept.run_setObj_map _ hb, Result.andThen, setBlock]
      obtain ⟨w', hr, hL, _, _⟩ := h'.update hN hx 0
      rw [hU] at hr
      rw [hE] at hrun
      injection hrun with _ hw1
      injection hr with _ hw'
      refine ⟨_, by rw [← hw1, hw']; exact hL, ?_⟩
      have hno : f x = none := by
        have h0 := h'.look hx
        have h4 := h'.look2 hx
        have h5 : (Instr.lookup 121 (.map (some mb)) x.val true).run Try.prog w = .ok (.tuple #[.int .i64 0, .bool false]) w := by
          simp [Instr.lookup, run_underlying Try.underlying121, MapKept.run_getObj_map hb, likeLaw.check w es.isEmpty (LK.keyOf hx), h1, Try.zeroValue3, Result.andThen]
        rw [h5] at h4
        injection h4 with h4
        cases hfx : f x with
        | none => rfl
        | some y => rw [hfx] at h4; simp at h4
      unfold putF
      rw [if_pos rfl, hno]
      rfl
    · have hE : (Instr.mapEntry 121 (.map (some mb)) x.val).run Try.prog w = .ok (.tuple #[e0.val, goInt e0.born]) (setBlock w mb (.map es clock)) := by
        have hj : es[j]? = some e0 := by simpa using h2
        have hsame : es.modify j (fun e => { e with key := x.val }) = es := by
          apply Array.ext'
          rw [Array.toList_modify, ChangeMaps.modify_eq_set _ _ _ _ h2]
          have : ({ e0 with key := x.val } : MapEntry) = e0 := by rw [← h3]
          rw [this]
          exact WideElems.set_self _ _ _ h2
        simp [Instr.mapEntry, run_underlying Try.underlying121, MapKept.run_getObj_map hb, likeLaw.check w false (LK.keyOf hx), h1, hj, h3, likeLaw.stays w (LK.keyOf hx), hsame, MapKept.run_setObj_map _ hb, Result.andThen, setBlock]
      rw [hE] at hrun
      injection hrun with _ hw1
      refine ⟨f, ?_, rfl⟩
      rw [← hw1]
      have h6 : (setBlock w mb (.map es clock)).heap[mb]? = w.heap[mb]? := by rw [heap_setBlock_same hb, hb]
      obtain ⟨D', hD', hf'⟩ := h'.heap h6
      exact ⟨D', hD'.mono (Nat.le_succ N), hf'⟩
  · have hw2' : w2.heap[mb]? = some (.map es1 clock1) := by rw [hw2, heap_setBlock_same hb]
    obtain ⟨es', clock', h1, h2⟩ := hst w2 (.int .i64 v) hw2'
    obtain ⟨w', hr, hL, _, _⟩ := h'.update hN hx v
    rw [h2] at hr
    injection hr with _ hw'
    refine ⟨_, h1, hL.heap (by rw [heap_setBlock_same hw2', ← hw', heap_setBlock_same hb]), World.mapTurned.grown ⟨es1, clock1, es', clock', hw2', rfl⟩, by simp [setBlock]⟩
end Go.Proofs.Ytobgcaemnpkbmaa
namespace Go.Proofs.Ytobgcaemnpkbmaa
open Go.RowKit
set_option maxHeartbeats 2000000 in
set_option maxRecDepth 100000 in
theorem count_any (sb : Nat) (f : LK → Option Int) (N : Nat) (tag : ByteArray) (key c : Int) (w : World) (h : LMap w sb f N) (hN : N < 1000000) (ht : tag.size ≤ maxLen) (hk : I64 key) (hc : (f ⟨tag, key, 0⟩).getD 0 = c) (hc0 : 0 ≤ c) (hc1 : c ≤ 1000000) :
    Calls Try.prog 94 #[.map (some sb), .string tag, .int .i64 key] w fun e w' => e = .returned (LK.val ⟨tag, key, c⟩) ∧ LMap w' sb (putF f ⟨tag, key, 0⟩ (c + 1)) (N + 1) ∧ Touch (fun b => b = sb) w w' := by
  have hx : (⟨tag, key, 0⟩ : LK).Ok := ⟨ht, hk, by show I64 0; unfold I64; omega⟩
  have hsb := h.lt
  have HL : Hid (∀ w', w'.heap[sb]? = w.heap[sb]? → LMap w' sb f N) := hide fun w' e => h.heap e
  clear h
  go_enter Try.func94, Try.ntmps94
  go_wp2_with fail
  generalize hw0 : (w.alloc (.cells #[.string ⟨#[]⟩, .int .i64 0, .int .i64 0] 123)).alloc (.cells #[.string tag, .int .i64 key, .int .i64 0] 123) = w0
  have hb0 : Below w.heap.size w w0 := by rw [← hw0]; exact ((Below.refl _ _).alloc (Nat.le_refl _) _).alloc (by simp) _
  have s0 : w0.heap.size = w.heap.size + 1 + 1 := by rw [← hw0]; simp
  have a0 : w0.cell? ⟨w.heap.size + 1, 0, none⟩ = some (.string tag) := by rw [← hw0]; simp [go_sem]
  have a1 : w0.cell? ⟨w.heap.size + 1, 1, none⟩ = some (.int .i64 key) := by rw [← hw0]; simp [go_sem]
  have a2 : w0.cell? ⟨w.heap.size + 1, 2, none⟩ = some (.int .i64 0) := by rw [← hw0]; simp [go_sem]
  have rb : w0.heap[w.heap.size]? = some (.cells #[.string ⟨#[]⟩, .int .i64 0, .int .i64 0] 123 (0, 0)) := by
    rw [← hw0, Below.heap_alloc _ _ _ (by simp)]
    show (w.heap.push _)[w.heap.size]? = _
    simp
  have hL0 : LMap w0.drew sb f N := HL.out _ (hb0.block sb hsb)
  have hq : (Instr.lookup 121 (.map (some sb)) (.agg #[.string tag, .int .i64 key, .int .i64 0]) false).run Try.prog w0.drew = .ok (.int .i64 c) w0.drew := by
    have := hL0.look hx
    rw [hc] at this
    exact this
  obtain ⟨r, st, w1, hE, ⟨f1, hL1, hf1⟩, hg1, hs1, hSt⟩ := hL0.entry (by unfold maxLen; omega) hx
  have hE : (Instr.mapEntry 121 (.map (some sb)) (.agg #[.string tag, .int .i64 key, .int .i64 0])).run Try.prog w0.drew = .ok (.tuple #[r, goInt st]) w1 := hE
  have hq1 : (Instr.lookup 121 (.map (some sb)) (.agg #[.string tag, .int .i64 key, .int .i64 0]) false).run Try.prog w1 = .ok (.int .i64 c) w1 := by
    have := hL1.look hx
    rw [hf1, hc] at this
    exact this
  obtain ⟨w2, hS2, hL2, hg2, hs2⟩ := hSt w1 (c + 1) rfl
  have hS2 : (Instr.entryStore 121 (.map (some sb)) (.int .i64 (st : Int)) (.int .i64 (c + 1))).run Try.prog w1 = .ok () w2 := hS2
  have hwr : IntKind.i64.wrap (c + 1) = c + 1 := by rw [IntKind.wrap_i64]; omega
  have hwr2 : IntKind.i64.wrap (c + 1 - 1) = c := by rw [IntKind.wrap_i64]; omega
  have hq2 : (Instr.lookup 121 (.map (some sb)) (.agg #[.string tag, .int .i64 key, .int .i64 0]) false).run Try.prog w2 = .ok (.int .i64 (c + 1)) w2 := by
    have := hL2.look hx
    unfold putF at this
    rw [if_pos rfl] at this
    exact this
  have hk1 : ∀ b, b < w0.heap.size → b ≠ sb → w1.heap[b]? = w0.heap[b]? := fun b hb hn => hg1.block b hb (fun e => hn (Option.some.inj e))
  have hs1' : w1.heap.size = w0.heap.size := hs1
  have hk2 : ∀ b, b < w0.heap.size → b ≠ sb → w2.heap[b]? = w0.heap[b]? := fun b hb hn => (hg2.block b (by omega) (fun e => hn (Option.some.inj e))).trans (hk1 b hb hn)
  have hB1 := hk1 (w.heap.size + 1) (by omega) (by omega)
  have hB2 := hk2 (w.heap.size + 1) (by omega) (by omega)
  have b0 : w1.cell? ⟨w.heap.size + 1, 0, none⟩ = some (.string tag) := (World.cell?_of_block hB1).trans a0
  have b1 : w1.cell? ⟨w.heap.size + 1, 1, none⟩ = some (.int .i64 key) := (World.cell?_of_block hB1).trans a1
  have b2 : w1.cell? ⟨w.heap.size + 1, 2, none⟩ = some (.int .i64 0) := (World.cell?_of_block hB1).trans a2
  have d0 : w2.cell? ⟨w.heap.size + 1, 0, none⟩ = some (.string tag) := (World.cell?_of_block hB2).trans a0
  have d1 : w2.cell? ⟨w.heap.size + 1, 1, none⟩ = some (.int .i64 key) := (World.cell?_of_block hB2).trans a1
  have d2 : w2.cell? ⟨w.heap.size + 1, 2, none⟩ = some (.int .i64 0) := (World.cell?_of_block hB2).trans a2
  have rb2 : w2.heap[w.heap.size]? = some (.cells #[.string ⟨#[]⟩, .int .i64 0, .int .i64 0] 123 (0, 0)) := (hk2 _ (by omega) (by omega)).trans rb
  have e0 : w2.cell? ⟨w.heap.size, 0, none⟩ = some (.string ⟨#[]⟩) := by simp [World.cell?, rb2]
  have e1 : w2.cell? ⟨w.heap.size, 1, none⟩ = some (.int .i64 0) := by simp [World.cell?, rb2]
  have e2 : w2.cell? ⟨w.heap.size, 2, none⟩ = some (.int .i64 0) := by simp [World.cell?, rb2]
  have fz : ∀ o, w2.frozen? ⟨w.heap.size, o, none⟩ = false := fun o => by simp [World.frozen?, rb2]
  have HEnd : Hid (∀ v0 v1 v2, LMap (((w2.setCell ⟨w.heap.size, 0, none⟩ v0).setCell ⟨w.heap.size, 1, none⟩ v1).setCell ⟨w.heap.size, 2, none⟩ v2) sb (putF f ⟨tag, key, 0⟩ (c + 1)) (N + 1) ∧ Touch (fun b => b = sb) w (((w2.setCell ⟨w.heap.size, 0, none⟩ v0).setCell ⟨w.heap.size, 1, none⟩ v1).setCell ⟨w.heap.size, 2, none⟩ v2)) := hide fun v0 v1 v2 => by
    have hT : Touch (fun b => b = sb) w w2 := ⟨hg2.os.trans (hg1.os.trans hb0.os), hg2.tape.trans (hg1.tape.trans hb0.tape), hg2.output.trans (hg1.output.trans hb0.output), by omega, fun b hb hn => (hk2 b (by omega) hn).trans (hb0.block b hb)⟩
    refine ⟨hL2.heap ?_, ((hT.set (.inr (Nat.le_refl _)) v0).set (.inr (Nat.le_refl _)) v1).set (.inr (Nat.le_refl _)) v2⟩
    rw [Below.heap_setCell _ _ _ _ (by show sb ≠ w.heap.size; omega), Below.heap_setCell _ _ _ _ (by show sb ≠ w.heap.size; omega), Below.heap_setCell _ _ _ _ (by show sb ≠ w.heap.size; omega)]
  clear hw0 hb0 HL hL0 hL1 hL2 hg1 hg2 hSt hk1 hk2 hB1 hB2 rb rb2 hs1 hs2 hs1' hx ht hk hc hf1
  have hS0 : (fun w' : World => w'.cell? ⟨w.heap.size + 1, 0, none⟩ = some (.string tag) ∧ w'.cell? ⟨w.heap.size + 1, 1, none⟩ = some (.int .i64 key) ∧ w'.cell? ⟨w.heap.size + 1, 2, none⟩ = some (.int .i64 0) ∧ (Instr.lookup 121 (.map (some sb)) (.agg #[.string tag, .int .i64 key, .int .i64 0]) false).run Try.prog w' = .ok (.int .i64 c) w') w0.drew := ⟨a0, a1, a2, hq⟩
  refine wp_region_last (S := (fun w' : World => w'.cell? ⟨w.heap.size + 1, 0, none⟩ = some (.string tag) ∧ w'.cell? ⟨w.heap.size + 1, 1, none⟩ = some (.int .i64 key) ∧ w'.cell? ⟨w.heap.size + 1, 2, none⟩ = some (.int .i64 0) ∧ (Instr.lookup 121 (.map (some sb)) (.agg #[.string tag, .int .i64 key, .int .i64 0]) false).run Try.prog w' = .ok (.int .i64 c) w')) (by kernel_rfl) ?_
  refine wpAnyT_take (i := 0) (v := ?v0) rfl (by kernel_rfl) (by kernel_rfl) (by kernel_rfl) (by kernel_rfl) (fun _ _ _ h => h) (Or.inl ⟨by rfl, ?hy0⟩) hS0 ?r0
  case hy0 => (intro w' hSw; (try obtain ⟨q0, q1, q2, q3⟩ := hSw); simp only [List.getElem_toArray, List.getElem_cons_zero]; go_simp; try (with_reducible rfl))
  simp only [List.getElem_toArray, List.getElem_cons_zero, Act.put, List.setIfInBounds_toArray, List.set_cons_zero, List.set_cons_succ]
  refine wpAnyT_take (i := 1) (v := ?v1) rfl (by kernel_rfl) (by kernel_rfl) (by kernel_rfl) (by kernel_rfl) (fun _ _ _ h => h) (Or.inl ⟨by rfl, ?hy1⟩) hS0 ?r1
  case hy1 => (intro w' hSw; (try obtain ⟨q0, q1, q2, q3⟩ := hSw); simp only [List.getElem_toArray, List.getElem_cons_zero, List.getElem_cons_succ]; go_simp; try (with_reducible rfl))
  simp only [List.getElem_toArray, List.getElem_cons_zero, List.getElem_cons_succ, Act.put, List.setIfInBounds_toArray, List.set_cons_zero, List.set_cons_succ]
  refine wpAnyT_take (i := 2) (v := ?v2) rfl (by kernel_rfl) (by kernel_rfl) (by kernel_rfl) (by kernel_rfl) (fun _ _ _ h => h) (Or.inl ⟨by rfl, ?hy2⟩) hS0 ?r2
  case hy2 => (intro w' hSw; (try obtain ⟨q0, q1, q2, q3⟩ := hSw); simp only [List.getElem_toArray, List.getElem_cons_zero, List.getElem_cons_succ]; go_simp; try (with_reducible rfl))
  simp only [List.getElem_toArray, List.getElem_cons_zero, List.getElem_cons_succ, Act.put, List.setIfInBounds_toArray, List.set_cons_zero, List.set_cons_succ]
  refine wpAnyT_take (i := 3) (v := ?v3) rfl (by kernel_rfl) (by kernel_rfl) (by kernel_rfl) (by kernel_rfl) (fun _ _ _ h => h) (Or.inl ⟨by rfl, ?hy3⟩) hS0 ?r3
  case hy3 => (intro w' hSw; (try obtain ⟨q0, q1, q2, q3⟩ := hSw); simp only [List.getElem_toArray, List.getElem_cons_zero, List.getElem_cons_succ]; go_simp; try (with_reducible rfl))
  simp only [List.getElem_toArray, List.getElem_cons_zero, List.getElem_cons_succ, Act.put, List.setIfInBounds_toArray, List.set_cons_zero, List.set_cons_succ]
  refine wpAnyT_one (i := 4) rfl (by kernel_rfl) (by rfl) ?_
  simp only [List.getElem_toArray, List.getElem_cons_zero, List.getElem_cons_succ]
  go_simp
  refine wpAnyT_one (i := 5) rfl (by kernel_rfl) (by rfl) ?_
  simp only [List.getElem_toArray, List.getElem_cons_zero, List.getElem_cons_succ]
  go_simp
  refine wpAnyT_one (i := 6) rfl (by kernel_rfl) (by rfl) ?_
  simp only [List.getElem_toArray, List.getElem_cons_zero, List.getElem_cons_succ]
  go_simp
  refine ⟨.inl (by kernel_rfl), ?_⟩
  refine wpAnyT_done (by kernel_rfl) ?_ _
  clear hE hS2 hq hq1
  go_wp2_with fail
  generalize hwF : ((w2.setCell ⟨w.heap.size, 0, none⟩ (.string tag)).setCell ⟨w.heap.size, 1, none⟩ (.int .i64 key)).setCell ⟨w.heap.size, 2, none⟩ (.int .i64 c) = wF
  have g0 : wF.cell? ⟨w.heap.size, 0, none⟩ = some (.string tag) := by rw [← hwF]; simp [go_sem, e0]
  have g1 : wF.cell? ⟨w.heap.size, 1, none⟩ = some (.int .i64 key) := by rw [← hwF]; simp [go_sem, e1]
  have g2 : wF.cell? ⟨w.heap.size, 2, none⟩ = some (.int .i64 c) := by rw [← hwF]; simp [go_sem, e2]
  have hF := HEnd.out (.string tag) (.int .i64 key) (.int .i64 c)
  rw [hwF] at hF
  have HF := hide hF
  clear hwF hF HEnd
  refine bodyPost_ret (v := .agg #[.string tag, .int .i64 key, .int .i64 c]) (by simp [results, Try.results94, go_sem, g0, g1, g2]) rfl ?_
  exact ⟨rfl, HF.out⟩
end Go.Proofs.Ytobgcaemnpkbmaa
namespace Go.Proofs.Ytobgcaemnpkbmaa
open Go.RowKit
open Go.ChangeMaps (setBlock heap_setBlock_same)
def cntP (A : Nat → ByteArray × Int) (x : ByteArray × Int) : Nat → Nat
  | 0 => 0
  | i + 1 => cntP A x i + (if A i = x then 1 else 0)
theorem cntP_le (A : Nat → ByteArray × Int) (x : ByteArray × Int) : ∀ i, cntP A x i ≤ i := by
  intro i
  induction i with
  | zero => exact Nat.le_refl _
  | succ i ih => rw [cntP]; split <;> omega
def seenTo (A : Nat → ByteArray × Int) : Nat → LK → Option Int
  | 0 => fun _ => none
  | i + 1 => putF (seenTo A i) ⟨(A i).1, (A i).2, 0⟩ ((cntP A (A i) i : Int) + 1)
theorem seen_get (A : Nat → ByteArray × Int) (t : ByteArray) (k : Int) : ∀ i, (seenTo A i ⟨t, k, 0⟩).getD 0 = (cntP A (t, k) i : Int) := by
  intro i
  induction i with
  | zero => rfl
  | succ i ih =>
    rw [seenTo, cntP]
    unfold putF
    by_cases e : A i = (t, k)
    · have e1 : (A i).1 = t := by rw [e]
      have e2 : (A i).2 = k := by rw [e]
      rw [if_pos (by rw [e1, e2]), if_pos e, e]
      simp
    · rw [if_neg (fun h => by
        injection h with h1 h2
        exact e (Prod.ext h1.symm h2.symm)), if_neg e, ih]
      simp
def placesTo (A : Nat → ByteArray × Int) : Nat → LK → Option Int
  | 0 => fun _ => none
  | i + 1 => putF (placesTo A i) ⟨(A i).1, (A i).2, cntP A (A i) i⟩ i
theorem places_lt (A : Nat → ByteArray × Int) (x : LK) : ∀ i v, placesTo A i x = some v → 0 ≤ v ∧ v < (i : Int) := by
  intro i
  induction i with
  | zero => intro v h; cases h
  | succ i ih =>
    intro v h
    rw [placesTo] at h
    unfold putF at h
    split at h
    · cases h; omega
    · have := ih v h; omega
def pairAt (A : Nat → ByteArray × Int) (n : Nat) (B : Nat → ByteArray × Int) (j : Nat) : Int := (placesTo A n ⟨(B j).1, (B j).2, cntP B (B j) j⟩).getD (-1)
def pairsP (A : Nat → ByteArray × Int) (n : Nat) (B : Nat → ByteArray × Int) (m : Nat) : List Int := (List.range m).map (pairAt A n B)
theorem pairsP_succ (A : Nat → ByteArray × Int) (n : Nat) (B : Nat → ByteArray × Int) (m : Nat) : pairsP A n B (m + 1) = pairsP A n B m ++ [pairAt A n B m] := by unfold pairsP; rw [List.range_succ, List.map_append]; rfl
theorem pairsP_length (A : Nat → ByteArray × Int) (n : Nat) (B : Nat → ByteArray × Int) (m : Nat) : (pairsP A n B m).length = m := by unfold pairsP; simp
set_option maxRecDepth 100000 in
theorem LMap.cleared {w : World} {mb : Nat} {f : LK → Option Int} {N : Nat} (h : LMap w mb f N) :
    ∃ w', (∀ ty, (Builtin.clear_ #[121] ty #[.map (some mb)]).run Try.prog w = .ok (.tuple #[]) w') ∧ LMap w' mb (fun _ => none) 0 ∧ w.grownBy w' (some mb) ∧ w'.heap.size = w.heap.size := by
  obtain ⟨D, ⟨es, clock, hb, F, hs, hD⟩, hf⟩ := h
  refine ⟨setBlock w mb (.map #[] clock), ?_, ?_, World.mapTurned.grown ⟨es, clock, #[], clock, hb, rfl⟩, by simp [setBlock]⟩
  · intro ty
    simp [Builtin.clear_, run_underlying Try.underlying121, MapKept.run_getObj_map hb, MapKept.run_setObj_map _ hb, Result.andThen, setBlock]
  · refine ⟨.map [], ⟨#[], clock, heap_setBlock_same hb _, ?_, by simp, rfl⟩, fun x _ => ⟨rfl, rfl⟩⟩
    exact ⟨Nat.zero_le _, ⟨fun x hx => by simp at hx, by simp, by simp⟩, fun x hx => by simp at hx⟩
end Go.Proofs.Ytobgcaemnpkbmaa
