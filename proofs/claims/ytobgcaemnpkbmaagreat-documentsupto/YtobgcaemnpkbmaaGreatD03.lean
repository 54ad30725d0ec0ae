/- Mem Cln Lix Doc App -/
import Derived.Test.YtobgcaemnpkbmaaGreatD02
import Derived.Deep.OwnRows
import Derived.Laws.CopyRow
import Derived.Lib.Strings
import Derived.Lib.Walk
import Derived.Lib.BufferWrite
import Derived.Lib.UnsafeStr
import Derived.Lib.Hide
import Derived.Laws.MakeOwn
import Derived.WalkKit
import Derived.LaidEqlPtr
import Derived.Laws.OwnMore
import Derived.Maps.AppendAt
namespace Go.Proofs.YtobgcaemnpkbmaaGreat
open Go.RowKit
theorem rowIs_made_any (w : World) (z : Array Value) (n : Nat) (t : TypeId) : ∃ f, (w.alloc (.cells (madeCells z n) t)).rowIs w.heap.size t n f := by
  refine ⟨fun i => z[i % z.size]!, ?_⟩
  have h := World.rowIs_alloc w (madeCells z n) t (fun i => z[i % z.size]!) (fun i hi => by
    rw [size_madeCells] at hi
    simp [madeCells, hi])
  rw [size_madeCells] at h
  exact h
theorem wpList_make_rows {P : Program} {w : World} {ops : Array Oper} {rest : List Oper} {o : Oper} {a : Act} {Q : Exit → Act → World → Prop}
    (hg : o.guard = none) (l c : Operand) (t : TypeId) (hop : o.op = Op.makeSlice t l c)
    (e : TypeId) (i : TypeInfo) (z : Value) (size bytes : Nat) (h1 : P.underlying t = some (.slice e)) (h2 : P.info? e = some i) (h3 : i.zero = some z) (h4 : i.size = size) (h5 : i.bytes = bytes)
    (kl kc : IntKind) (A : Int) (n : Nat) (hl : a.eval l = .int kl A) (hc : a.eval c = .int kc A) (hA : A = (n : Int)) (b2 : bytes * n ≤ 281474976710656) (b3 : n ≤ 9223372036854775807)
    (hK : ∀ w' f, Hid (w'.rowIs w.heap.size e (n * size) f) → w'.heap.size = w.heap.size + 1 → Below w.heap.size w w' → wpList P ops Q rest (a.put o.dst (.slice (some ⟨w.heap.size, 0, none⟩) n n)) w') :
    wpList P ops Q (o :: rest) a w := by
  refine wpList_plain hg fun K hK' => ?_
  have hb' : (i.bytes : Int) * (n : Int) ≤ 281474976710656 := by
    have h : ((i.bytes * n : Nat) : Int) ≤ 281474976710656 := by rw [h5]; omega
    rwa [Int.natCast_mul] at h
  have hrun := run_make (P := P) w t e i z h1 h2 h3 kl kc n n (by omega) (Int.le_refl _) hb' (by omega)
  rw [Int.toNat_natCast, h4] at hrun
  obtain ⟨f, hf⟩ := rowIs_made_any w z.cells (n * size) e
  unfold Oper.wp
  simp [execOp, hop, hl, hc, hA, hrun, Result.andThen]
  exact hK' _ _ (hK _ f (hide hf) (by simp) ((Below.refl _ _).alloc (Nat.le_refl _) _))
theorem range_map_get {α : Type} (F : Nat → α) (n j : Nat) (v : α) (h : ((List.range n).map F)[j]? = some v) : j < n ∧ v = F j := by
  rw [List.getElem?_map] at h
  by_cases hj : j < n
  · rw [List.getElem?_range hj] at h
    exact ⟨hj, (Option.some.inj h).symm⟩
  · rw [List.getElem?_eq_none (by simp; omega)] at h
    cases h
theorem wpList_copy_rows {P : Program} {w : World} {ops : Array Oper} {rest : List Oper} {o : Oper} {a : Act} {Q : Exit → Act → World → Prop} (hgd : o.guard = none) (d s : Operand) (dT sT : TypeId)
    (ho : o.op = .call { callee := .builtin .copy, args := #[d, s], argTypes := #[dT, sT] }) (elem : TypeId) (hu : P.underlying dT = some (.slice elem)) (sz : Nat) (hsz : (P.info? elem).map (·.size) = some sz)
    (g dLen dCap : Nat) (sp : Option Addr) (sLen sCap : Nat) (hd : a.eval d = .slice (some ⟨g, 0, none⟩) dLen dCap) (hs : a.eval s = .slice sp sLen sCap) (hle : sLen ≤ dLen)
    (t : TypeId) (N : Nat) (f : Nat → Value) (hrow : w.rowIs g t N f) (F : Nat → Value) (hsrc : 0 < sLen → ∃ ad, sp = some ad ∧ ∀ j, j < sLen * sz → w.cell? (ad.add j) = some (F j))
    (hfit : sLen * sz ≤ N) (h1 : ∀ j, j < sLen * sz → (F j).oneCell' = true) (B : Nat) (w0 : World) (hb : Below B w0 w) (hBg : B ≤ g)
    (h : ∀ w', Hid (w'.rowIs g t N (fun j => if j < sLen * sz then F j else f j)) → w'.heap.size = w.heap.size → Below B w0 w' → wpList P ops Q rest (a.put o.dst (goInt sLen)) w') :
    wpList P ops Q (o :: rest) a w := by
  refine wpList_plain hgd fun K hK => ?_
  obtain ⟨i, hi, hisz⟩ := Option.map_eq_some_iff.1 hsz
  obtain ⟨cur, hcur, hcs, hcf⟩ := hrow
  have hmin : Nat.min sLen dLen = sLen := Nat.min_eq_left hle
  have hlen : ((List.range (sLen * sz)).map F).length = sLen * sz := by simp
  have hst := run_storeCells_at P g 0 t ((List.range (sLen * sz)).map F) 0 cur w hcur (by rw [hlen]; omega) (fun v hv => by
    obtain ⟨j, hj, rfl⟩ := List.mem_map.1 hv
    exact h1 j (List.mem_range.1 hj))
  have hrun : (Builtin.copy_ #[dT, sT] o.type #[.slice (some ⟨g, 0, none⟩) dLen dCap, .slice sp sLen sCap]).run P w =
      .ok (goInt sLen) (w.setRow g (cur.toList.take (0 + 0) ++ (List.range (sLen * sz)).map F ++ cur.toList.drop (0 + 0 + ((List.range (sLen * sz)).map F).length)).toArray) := by
    by_cases hz : 0 < sLen
    · obtain ⟨ad, rfl, hcell⟩ := hsrc hz
      have hl := run_loadCells_list (P := P) w ad ((List.range (sLen * sz)).map F) (fun j v hv => by
        obtain ⟨hj, rfl⟩ := range_map_get F _ _ _ hv
        exact hcell j hj)
      rw [hlen] at hl
      simp only [Builtin.copy_, Builtin.lenOf, Builtin.firstCells, sizeOf, typeInfo]
      simp [run_underlying hu, hi, hisz, hmin, hl, hst]
    · have hz : sLen = 0 := by omega
      subst hz
      have hst' : (storeCells ⟨g, 0, none⟩ [] 0).run P w = .ok () w := rfl
      have hself := setRow_self w g cur t (0, 0) hcur
      cases sp with
      | none =>
        simp [Builtin.copy_, run_underlying hu, Builtin.lenOf, Builtin.firstCells, sizeOf, typeInfo, hi, hst', hself]
      | some ad =>
        have hl := run_loadCells_list (P := P) w ad [] (fun j v hv => by simp at hv)
        simp at hl
        simp [Builtin.copy_, run_underlying hu, Builtin.lenOf, Builtin.firstCells, sizeOf, typeInfo, hi, hst', hself, hl]
  unfold Oper.wp
  simp [execOp, ho, resolve, invoke, builtin, hd, hs, hrun, Result.andThen]
  refine hK _ _ (h _ (hide ?_) (by simp [World.setRow]) ?_)
  · refine ⟨_, setRow_heap w g cur _ t _ hcur, by simp; omega, fun j hj => ?_⟩
    by_cases hjl : j < sLen * sz
    · simp only [hjl, if_true]
      simp [List.getElem?_append, hjl]
    · simp only [hjl, if_false]
      rw [← hcf j hj]
      simp [List.getElem?_append, hjl]
      congr 1
      omega
  · exact hb.trans ⟨rfl, rfl, rfl, by simp [World.setRow], fun k hk => setRow_other w g k _ (by omega)⟩
end Go.Proofs.YtobgcaemnpkbmaaGreat
namespace Go.Proofs.YtobgcaemnpkbmaaGreat
open Go.RowKit
theorem byteInfo : (Tryz.prog.info? 5).map (fun i => (i.zero, i.size, i.bytes)) = some (some (.int .u8 0), 1, 1) := by kernel_rfl
set_option maxHeartbeats 4000000 in
set_option maxRecDepth 100000 in
theorem clone_lite (s : ByteArray) (w : World) (hlim : s.size ≤ 281474976710656) :
    Calls Tryz.prog 100 #[.string s] w fun e w' => e = .returned (.string s) ∧ Below w.heap.size w w' := by
  by_cases h0 : s.size = 0
  · have hs : s = ⟨#[]⟩ := by
      apply ByteArray.ext
      exact Array.eq_empty_of_size_eq_zero h0
    subst hs
    go_enter Tryz.func100, Tryz.ntmps100
    go_wp2
    go_ret
    exact ⟨rfl, Below.refl _ _⟩
  · obtain ⟨i0, hi, hz0, hz1, hz2⟩ := info_parts byteInfo
    have hinfo : (Tryz.prog.info? 5).map (·.size) = some 1 := by rw [hi]; simp [hz1]
    have hco : (Tryz.prog).cellsOf 5 = 1 := by simp [Program.cellsOf, hi, hz1]
    obtain ⟨M, hM⟩ : ∃ M, M = madeCells (Value.int .u8 0).cells (((s.size : Nat) : Int).toNat * i0.size) := ⟨_, rfl⟩
    have hMs : M.size = s.size := by rw [hM, size_madeCells, hz1]; simp
    have hmk : ∀ W : World, (Instr.makeSlice 179 (.int .i64 (s.size : Int)) (.int .i64 (s.size : Int))).run Tryz.prog W = .ok (.slice (some ⟨W.heap.size, 0, none⟩) s.size s.size) (W.alloc (.cells M 5)) := fun W => by
      have h := run_make (P := Tryz.prog) W 179 5 i0 (.int .u8 0) Tryz.underlying179 hi hz0 .i64 .i64 (s.size : Int) (s.size : Int) (by omega) (by omega) (by rw [hz2]; omega) (by omega)
      rw [← hM] at h
      simpa using h
    clear hM
    have hcp := Lib.run_copy_row_string (P := Tryz.prog) (w.alloc (.cells M 5)) 179 9 3 5 w.heap.size 0 s.size s.size s M 5 Tryz.underlying179 hinfo (heap_alloc_new w _) (Nat.le_refl _) (by omega)
    obtain ⟨Y, hY⟩ : ∃ Y, Y = (M.toList.take 0 ++ Lib.byteCells s.data.toList ++ M.toList.drop (0 + s.size)).toArray := ⟨_, rfl⟩
    rw [← hY] at hcp
    have hYl : Y.toList = Lib.byteCells s.data.toList := by
      rw [hY, List.toList_toArray, List.take_zero, List.nil_append, List.drop_of_length_le (by rw [Array.length_toList]; omega), List.append_nil]
    have hYs : Y.size = s.size := by rw [← Array.length_toList, hYl, Lib.byteCells_length, ← Lib.size_eq]
    have hgY : ((w.alloc (.cells M 5)).setRow w.heap.size Y).heap[w.heap.size]? = some (.cells Y 5 (0, 0)) := setRow_heap _ _ M _ 5 (0, 0) (heap_alloc_new w _)
    have hne : s.data.toList ≠ [] := fun e => h0 (by rw [Lib.size_eq, e]; rfl)
    have hUS := Lib.run_unsafeString_row (P := Tryz.prog) ((w.alloc (.cells M 5)).setRow w.heap.size Y) 180 3 9 5 Tryz.underlying180 hco w.heap.size Y.size (by unfold World.shape?; rw [hgY]) s.data.toList hne (by rw [← Lib.size_eq]; omega) (by rw [← Lib.size_eq]; omega)
      (fun j x hx => Lib.cells_of_row hgY Y.size j _ (by rw [List.take_of_length_le (by rw [Array.length_toList]; exact Nat.le_refl _), hYl]; simp [Lib.byteCells, hx]))
    rw [← Lib.size_eq] at hUS
    clear hY
    go_enter Tryz.func100, Tryz.ntmps100
    go_wp2
    go_ret
    have hb1 : Below w.heap.size w (w.alloc (.cells M 5)) := (Below.refl _ w).alloc (Nat.le_refl _) _
    have hb2 : Below w.heap.size (w.alloc (.cells M 5)) ((w.alloc (.cells M 5)).setRow w.heap.size Y) := ⟨rfl, rfl, rfl, by simp, fun k hk => setRow_other _ _ _ _ (by omega)⟩
    exact ⟨rfl, Lib.below_freeze (hb1.trans hb2) (p := ⟨w.heap.size, 0, none⟩) (Nat.le_refl _) _⟩
theorem clone_any (s : ByteArray) (w : World) (hlim : s.size ≤ 281474976710656) :
    Calls Tryz.prog 81 #[.string s] w fun e w' => e = .returned (.string s) ∧ Below w.heap.size w w' := by
  go_enter Tryz.func81, Tryz.ntmps81
  go_wp2_with (first | (go_at_call 100; refine (clone_lite s _ hlim).mono ?_; rintro e w1 ⟨rfl, hb⟩))
  go_ret
  exact ⟨rfl, hb⟩
theorem own_any (s : ByteArray) (w : World) (hlim : s.size ≤ 281474976710656) :
    Calls Tryz.prog 63 #[.string s] w fun e w' => e = .returned (.string s) ∧ Below w.heap.size w w' := by
  go_enter Tryz.func63, Tryz.ntmps63
  go_wp2_with (first | (go_at_call 81; refine (clone_any s _ hlim).mono ?_; rintro e w1 ⟨rfl, hb⟩))
  go_ret
  exact ⟨rfl, hb⟩
end Go.Proofs.YtobgcaemnpkbmaaGreat
namespace Go.Proofs.YtobgcaemnpkbmaaGreat
open Go.RowKit
def Plain (w : World) (b : Nat) : Prop := ∃ c t, w.heap[b]? = some (.cells c t (0, 0))
theorem nodeInfoP : (Tryz.prog.info? 138).map (fun i => (i.zero, i.size, i.bytes)) = some (some (.agg #[.int .i64 0, .int .i64 0, .string ⟨#[]⟩, .string ⟨#[]⟩, .slice none 0 0, .pointer none, .slice none 0 0]), 7, 104) := by kernel_rfl
theorem run_eql_ptr {w : World} {a b : Nat} (ha : Plain w a) (hb : Plain w b) : (binOp .eql 112 (.pointer (some ⟨a, 0, none⟩)) (.pointer (some ⟨b, 0, none⟩))).run Tryz.prog w = .ok (.bool (a == b)) w := by
  obtain ⟨i0, hi, _, hz1, _⟩ := info_parts nodeInfoP
  by_cases h : a = b
  · subst h
    rw [run_eql_ptr_same w _ Tryz.underlying112 hi]
    simp
  · obtain ⟨ca, ta, ha⟩ := ha
    obtain ⟨cb, tb, hb⟩ := hb
    rw [run_eql_ptr_other w Tryz.underlying112 hi (by omega) (fun e => h (by cases e; rfl)) ha hb]
    simp [h]
theorem run_neq_ptr {w : World} {a b : Nat} (ha : Plain w a) (hb : Plain w b) : (binOp .neq 112 (.pointer (some ⟨a, 0, none⟩)) (.pointer (some ⟨b, 0, none⟩))).run Tryz.prog w = .ok (.bool (a != b)) w := by
  have h := run_eql_ptr ha hb
  simp only [binOp] at h ⊢
  simp only [Sem.run_bind] at h ⊢
  cases hr : (Op.equal 112 (.pointer (some ⟨a, 0, none⟩)) (.pointer (some ⟨b, 0, none⟩))).run Tryz.prog w with
  | ok v w' =>
    rw [hr] at h
    simp at h
    obtain ⟨rfl, rfl⟩ := h
    simp [bne]
  | _ => rw [hr] at h; simp [Result.andThen] at h
set_option maxHeartbeats 400000 in
theorem index_any (g n c : Nat) (K : List Nat) (x : Nat) (w : World) (hn : n = K.length) (hbig : n ≤ 1099511627776) (k : Nat) (hk : k < n) (hx : K[k]? = some x) (hfst : ∀ j, j < k → K[j]? ≠ some x) (hc : ∀ j y, K[j]? = some y → w.cell? ⟨g, j, none⟩ = some (.pointer (some ⟨y, 0, none⟩))) (hp : ∀ y, y ∈ K → Plain w y) :
    Calls Tryz.prog 64 #[.slice (some ⟨g, 0, none⟩) n c, .pointer (some ⟨x, 0, none⟩)] w fun e w' => e = .returned (.int .i64 k) ∧ w' = w := by
  have hpx : Plain w x := hp x (List.mem_of_getElem? hx)
  have HC := hide hc
  have HP := hide hp
  have HF := hide hfst
  have HN := hide hn
  clear hc hp hfst hn
  go_enter Tryz.func64, Tryz.ntmps64
  go_wp2_with fail
  go_loopw [8] (fun i wr => ∃ j : Nat, j ≤ k ∧ i = .int .i64 j ∧ wr = w) (fun i _ => n - (intOf i).toNat)
  case atStart => exact ⟨0, Nat.zero_le _, rfl, rfl⟩
  case round =>
    obtain ⟨j, hj, rfl, rfl⟩ := hrel
    have hjn : j < K.length := by have := HN.out; omega
    have hy := List.getElem?_eq_getElem hjn
    have cj := HC.out j _ hy
    have heq := run_eql_ptr hpx (HP.out _ (List.getElem_mem hjn))
    have hlt : j < n := by omega
    by_cases e : j = k
    · subst e
      have hxy : x = K[j] := by rw [hy] at hx; exact (Option.some.inj hx).symm
      rw [hxy, beq_self_eq_true] at heq
      subst hxy
      go_wp2_with fail
      go_ret
      exact ⟨rfl, rfl⟩
    · have hxy : (x == K[j]) = false := by
        have := HF.out j (by omega)
        rw [hy] at this
        simp
        exact fun e => this (by rw [e])
      rw [hxy] at heq
      go_wp2_with fail
      go_roundw
      case rel => exact ⟨j + 1, by omega, by go_num, trivial⟩
      case measure => simp [intOf]; omega
end Go.Proofs.YtobgcaemnpkbmaaGreat
namespace Go.Proofs.YtobgcaemnpkbmaaGreat
open Go.RowKit
structure PN where
  id : Int
  par : Int
  tag : ByteArray
  key : Int
  text : ByteArray
  ats : List (ByteArray × ByteArray)
def nmOf (l : List (ByteArray × ByteArray)) (i : Nat) : ByteArray := (l.getD i (ByteArray.empty, ByteArray.empty)).1
def vlOf (l : List (ByteArray × ByteArray)) (i : Nat) : ByteArray := (l.getD i (ByteArray.empty, ByteArray.empty)).2
structure RN extends PN where
  ao : Option Addr
  an : Nat
  ac : Nat
def RN.cells (n : RN) : List Value := [.int .i64 n.id, .int .i64 n.par, .string n.tag, .int .i64 n.key, .slice n.ao n.an n.ac, .string n.text]
def rowOf (R : List RN) : List Value := R.flatMap RN.cells
theorem rowOf_append (R Q : List RN) : rowOf (R ++ Q) = rowOf R ++ rowOf Q := by unfold rowOf; rw [List.flatMap_append]
theorem rowOf_one (n : RN) : rowOf [n] = n.cells := by unfold rowOf; simp
theorem rowOf_get (R : List RN) (i r : Nat) (hi : i < R.length) (hr : r < 6) : (rowOf R)[i * 6 + r]? = (R[i]).cells[r]? := by
  induction R generalizing i with
  | nil => exact absurd hi (Nat.not_lt_zero _)
  | cons a R ih =>
    have e : rowOf (a :: R) = a.cells ++ rowOf R := by unfold rowOf; rw [List.flatMap_cons]
    rw [e]
    cases i with
    | zero => rw [List.getElem?_append_left (by show 0 * 6 + r < 6; omega)]; simp
    | succ i =>
      rw [List.getElem?_append_right (by show 6 ≤ _; omega)]
      have e2 : (i + 1) * 6 + r - a.cells.length = i * 6 + r := by show _ - 6 = _; omega
      rw [e2, ih i (by simpa using hi)]
      rfl
structure RN.Ok (S : Nat → Prop) (w : World) (n : RN) : Prop where
  an : n.an = n.ats.length
  few : n.an ≤ 5
  nil : n.ao = none → n.an = 0 ∧ n.ac = 0
  tag : n.tag.size ≤ maxLen
  text : n.text.size ≤ maxLen
  at' : AttrsAt w n.ao n.an (nmOf n.ats) (vlOf n.ats)
  own : ∀ ad, n.ao = some ad → S ad.block ∧ ad.block < w.heap.size
structure RefAt (S : Nat → Prop) (w : World) (p : Nat) (R : List RN) (last : Int) (v : Value) : Prop where
  sp : S p
  c0 : w.cell? ⟨p, 0, none⟩ = some v
  c1 : w.cell? ⟨p, 1, none⟩ = some (.int .i64 1)
  c2 : w.cell? ⟨p, 2, none⟩ = some (.int .i64 last)
  f0 : w.frozen? ⟨p, 0, none⟩ = false
  f2 : w.frozen? ⟨p, 2, none⟩ = false
  row : w.ownsRow 0 91 6 v R.length (rowOf R)
  srow : ∀ g, v.ownBlock = some g → S g ∧ g ≠ p
  few : R.length ≤ 800
  node : ∀ n, n ∈ R → n.Ok S w
  apart : ∀ n, n ∈ R → ∀ ad, n.ao = some ad → ad.block ≠ p ∧ some ad.block ≠ v.ownBlock
theorem RN.Ok.mono {S S' : Nat → Prop} {w : World} {n : RN} (h : n.Ok S w) (hS : ∀ b, b < w.heap.size → S b → S' b) : n.Ok S' w :=
  ⟨h.an, h.few, h.nil, h.tag, h.text, h.at', fun ad e => ⟨hS _ (h.own ad e).2 (h.own ad e).1, (h.own ad e).2⟩⟩
theorem RN.Ok.below {S : Nat → Prop} {w w' : World} {n : RN} (h : n.Ok S w) (hb : Below w.heap.size w w') : n.Ok S w' :=
  ⟨h.an, h.few, h.nil, h.tag, h.text, h.at'.below hb, fun ad e => ⟨(h.own ad e).1, Nat.lt_of_lt_of_le (h.own ad e).2 hb.size⟩⟩
theorem RefAt.lt {S : Nat → Prop} {w : World} {p : Nat} {R : List RN} {last : Int} {v : Value} (h : RefAt S w p R last v) : p < w.heap.size := block_lt_of_cell h.c0
theorem ownsRow_below {w w' : World} {base : Nat} {e : TypeId} {size : Nat} {v : Value} {n : Nat} {xs : List Value} (h : w.ownsRow base e size v n xs) (hb : Below w.heap.size w w') : w'.ownsRow base e size v n xs :=
  h.kept (row := none) ⟨hb.os, hb.tape, hb.output, hb.size, fun k hk _ => hb.block k hk⟩ (by cases hv : v.ownBlock <;> simp)
theorem RefAt.below {S : Nat → Prop} {w w' : World} {p : Nat} {R : List RN} {last : Int} {v : Value} (h : RefAt S w p R last v) (hb : Below w.heap.size w w') : RefAt S w' p R last v := by
  have hp := h.lt
  exact ⟨h.sp, (hb.cell (p := ⟨p, _, none⟩) hp).trans h.c0, (hb.cell (p := ⟨p, _, none⟩) hp).trans h.c1, (hb.cell (p := ⟨p, _, none⟩) hp).trans h.c2,
    (hb.frozen (p := ⟨p, _, none⟩) hp).trans h.f0, (hb.frozen (p := ⟨p, _, none⟩) hp).trans h.f2, ownsRow_below h.row hb, h.srow, h.few, fun n hn => (h.node n hn).below hb, h.apart⟩
def atP (R : List RN) (id : Int) : Int := match R.findIdx? (fun n => n.id == id) with | some k => (k : Int) | none => -1
theorem atP_hit {R : List RN} {id : Int} {k : Nat} (hk : k < R.length) (h : R[k].id = id) (hall : ∀ j, (hj : j < R.length) → j < k → R[j].id ≠ id) : atP R id = k := by
  unfold atP
  have : R.findIdx? (fun n => n.id == id) = some k := by
    rw [List.findIdx?_eq_some_iff_getElem]
    refine ⟨hk, by simp [h], fun j hj => ?_⟩
    simpa using hall j (by omega) hj
  rw [this]
theorem atP_none {R : List RN} {id : Int} (hall : ∀ j, (hj : j < R.length) → R[j].id ≠ id) : atP R id = -1 := by
  unfold atP
  have : R.findIdx? (fun n => n.id == id) = none := by
    rw [List.findIdx?_eq_none_iff]
    intro x hx
    obtain ⟨j, hj, rfl⟩ := List.getElem_of_mem hx
    simpa using hall j hj
  rw [this]
theorem RefAt.at {S : Nat → Prop} {w : World} {p : Nat} {R : List RN} {last : Int} {v : Value} (h : RefAt S w p R last v) (h0 : 0 < R.length) :
    ∃ g cap, v = .slice (some ⟨g, 0, none⟩) R.length cap ∧ R.length ≤ cap ∧ g < w.heap.size ∧ S g ∧ g ≠ p ∧ ∀ i r, (hi : i < R.length) → r < 6 → w.cell? ⟨g, i * 6 + r, none⟩ = (R[i]).cells[r]? := by
  rcases h.row.2 with ⟨_, e⟩ | ⟨g, cap, cur, rfl, _, hg, hc, _⟩
  · omega
  · have hs := h.srow g rfl
    refine ⟨g, cap, rfl, hc, (Array.getElem?_eq_some_iff.1 hg).1, hs.1, hs.2, fun i r hi hr => ?_⟩
    rw [h.row.cellAt (i * 6 + r) (by omega), rowOf_get R i r hi hr]
theorem RefAt.nil {S : Nat → Prop} {w : World} {p : Nat} {R : List RN} {last : Int} {v : Value} (h : RefAt S w p R last v) : ∃ ao cap, v = .slice ao R.length cap := by
  rcases h.row.2 with ⟨rfl, e⟩ | ⟨g, cap, cur, rfl, _, hg, hc, _⟩
  · exact ⟨none, 0, by rw [e]⟩
  · exact ⟨_, cap, rfl⟩
set_option maxHeartbeats 400000 in
theorem at_any (S : Nat → Prop) (p : Nat) (R : List RN) (last : Int) (v : Value) (id : Int) (w : World) (h : RefAt S w p R last v) :
    Calls Tryz.prog 49 #[.pointer (some ⟨p, 0, none⟩), .int .i64 id] w fun e w' => e = .returned (.int .i64 (atP R id)) ∧ w' = w := by
  obtain ⟨ao, cap, rfl⟩ := h.nil
  have hfew := h.few
  have c0 := h.c0
  have H := hide h
  clear h
  go_enter Tryz.func49, Tryz.ntmps49
  go_wp2
  go_loopw [5] (fun i wr => ∃ k : Nat, k ≤ R.length ∧ i = .int .i64 k ∧ Hid (∀ j, (hj : j < R.length) → j < k → R[j].id ≠ id) ∧ wr = w) (fun i _ => R.length - (intOf i).toNat)
  case atStart => exact ⟨0, Nat.zero_le _, rfl, hide (fun _ _ h => absurd h (Nat.not_lt_zero _)), rfl⟩
  case round =>
    obtain ⟨k, hk, rfl, hall, rfl⟩ := hrel
    by_cases hlt : k < R.length
    · obtain ⟨g, cap', e, hcc, hg, _, _, hcell⟩ := H.out.at (by omega)
      cases e
      have d0 : wr.cell? ⟨g, k * 6, none⟩ = some (.int .i64 R[k].id) := hcell k 0 hlt (by omega)
      clear hcell
      by_cases hid : R[k].id = id
      · have HX := hide (atP_hit hlt hid hall.out)
        clear hall
        go_wp2
        go_ret
        exact ⟨ret_int HX.out.symm, rfl⟩
      · have HX := hide hall.out
        clear hall
        go_wp2
        go_roundw
        case rel =>
          refine ⟨k + 1, by omega, by go_num, hide (fun j hj hjk => ?_), trivial⟩
          by_cases e : j = k
          · subst e; assumption
          · exact HX.out j hj (by omega)
        case measure => simp [intOf]; omega
    · have HX := hide (atP_none (R := R) (id := id) (fun j hj => hall.out j hj (by omega)))
      clear hall
      go_wp2
      go_ret
      exact ⟨ret_int HX.out.symm, rfl⟩
end Go.Proofs.YtobgcaemnpkbmaaGreat
namespace Go.Proofs.YtobgcaemnpkbmaaGreat
open Go.RowKit
theorem addr_add' (b o j : Nat) : (⟨b, o, none⟩ : Addr).add j = ⟨b, o + j, none⟩ := by
  unfold Addr.add; split
  · next h => subst h; rfl
  · rfl
def Grew (w w' : World) (v v' : Value) : Prop := (v'.ownBlock = v.ownBlock ∧ w.grownBy w' v.ownBlock ∧ w'.heap.size = w.heap.size) ∨ (v'.ownBlock = some w.heap.size ∧ w.grownBy w' none)
theorem Grew.by {w w' : World} {v v' : Value} (h : Grew w w' v v') : w.grownBy w' v.ownBlock := by
  rcases h with ⟨_, h, _⟩ | ⟨_, h⟩
  · exact h
  · exact ⟨h.os, h.tape, h.output, h.size, fun k hk _ => h.block k hk (by simp)⟩
theorem Grew.size {w w' : World} {v v' : Value} (h : Grew w w' v v') : w.heap.size ≤ w'.heap.size := h.by.size
theorem Grew.at {w w' : World} {v v' : Value} (h : Grew w w' v v') : v'.ownBlock = v.ownBlock ∨ v'.ownBlock = some w.heap.size := h.imp (·.1) (·.1)
theorem run_app {P : Program} (w : World) (base : Nat) (t ty e : TypeId) (i : TypeInfo) (z : Value) (size bytes : Nat) (ht : P.underlying t = some (.slice e)) (hi : P.info? e = some i) (hz : i.zero = some z)
    (hsize : i.size = size) (hby : i.bytes = bytes) (hzs : z.cells.size = size)
    (v : Value) (n : Nat) (xs : List Value) (hown : w.ownsRow base e size v n xs)
    (ao : Option Addr) (m c : Nat) (news : List Value) (hnone : ao = none → m = 0 ∧ c = 0) (hl : news.length = m * size) (hnews : ∀ a, ao = some a → ∀ j u, news[j]? = some u → w.cell? (a.add j) = some u) (h1 : ∀ u ∈ news, u.oneCell' = true)
    (h63 : n + m ≤ 9223372036854775807) (hbytes : (n + m) * bytes ≤ 140737488355328) (hbase : base ≤ w.heap.size) :
    ∃ v' w', (Builtin.append_ #[t, t] ty #[v, .slice ao m c]).run P w = .ok v' w' ∧ w'.ownsRow base e size v' (n + m) (xs ++ news) ∧ Grew w w' v v' ∧
      (v' = .slice none 0 0 ↔ v = .slice none 0 0 ∧ m = 0) := by
  subst hsize hby
  have hm63 : n + m ≤ maxLen := by unfold maxLen; omega
  have hxs := hown.1
  have hlen : (xs ++ news).length = (n + m) * i.size := by rw [List.length_append, hxs, hl, Nat.add_mul]
  cases ao with
  | none =>
    obtain ⟨rfl, rfl⟩ := hnone rfl
    have hnn : news = [] := List.eq_nil_of_length_eq_zero (by simpa using hl)
    subst hnn
    refine ⟨v, w, run_append_owned_none w base t ty e i i.size ht hi v n xs hown, by simpa using hown, .inl ⟨rfl, World.grownBy.refl _ _, rfl⟩, by simp⟩
  | some a =>
    have hnews := hnews a rfl
    have made : ∀ old, old < n + m → (w.drew.alloc (.cells (xs.toArray ++ news.toArray ++ Builtin.zeroCells z.cells (grownCap w (n + m) old e - (n + m))) e)).ownsRow base e i.size
        (.slice (some ⟨w.heap.size, 0, none⟩) (n + m) (grownCap w (n + m) old e)) (n + m) (xs ++ news) := by
      intro old _
      have hge := grownCap_ge w (n + m) old e
      refine ⟨hlen, .inr ⟨w.heap.size, _, _, rfl, hbase, heap_alloc_new w.drew _, hge, grownCap_le_maxLen w (n + m) old e hm63, ?_, ?_⟩⟩
      · rw [Array.size_append, Array.size_append, size_zeroCells, hzs, List.size_toArray, List.size_toArray, hxs, hl, ← Nat.add_mul, ← Nat.add_mul]
        congr 1
        omega
      · rw [← hlen, Array.toList_append, Array.toList_append]
        exact List.take_left
    have grew : ∀ o : Obj, w.grownBy (w.drew.alloc o) none := fun o => ⟨rfl, rfl, rfl, by simp, fun k hk _ => heap_alloc_old w.drew _ hk⟩
    rcases hown.2 with ⟨rfl, rfl⟩ | ⟨g, cap, cur, rfl, hbg, hg, hnc, hcm, hcs, htake⟩
    · have hx : xs = [] := List.eq_nil_of_length_eq_zero (by simpa using hxs)
      subst hx
      by_cases hm : m = 0
      · subst hm
        have hnn : news = [] := List.eq_nil_of_length_eq_zero (by simpa using hl)
        subst hnn
        refine ⟨.slice none 0 0, w, ?_, World.ownsRow_nil w base e i.size, .inl ⟨rfl, World.grownBy.refl _ _, rfl⟩, by simp⟩
        simp [Builtin.append_, run_underlying ht, sizeOf, typeInfo, hi, Builtin.lenOf, Builtin.firstCells, loadCells, loadCellsFrom]
      · have hr := run_append_nil (P := P) w t ty e i z ht hi hz a m c news hl hnews (by omega) (by omega) (by have hb := hbytes; simp only [Nat.zero_add] at hb; omega)
        have hgr := made 0 (by omega)
        simp only [Nat.zero_add, List.nil_append, Array.empty_append] at hgr ⊢
        exact ⟨_, _, hr, hgr, .inr ⟨rfl, grew _⟩, by simp [hm]⟩
    · by_cases hroom : n + m ≤ cap
      · have hfit : n * i.size + news.length ≤ cur.size := by rw [hl, hcs, ← Nat.add_mul]; exact Nat.mul_le_mul_right _ hroom
        have hr := run_append_room (P := P) w t ty e i ht hi g n cap cur hg a m c news hl hnews h1 hroom hfit
        refine ⟨_, _, hr, ⟨hlen, .inr ⟨g, cap, _, rfl, hbg, setRow_heap w g cur _ e _ hg, hroom, hcm, ?_, ?_⟩⟩, .inl ⟨rfl, ⟨rfl, rfl, rfl, by simp, fun k _ hk => setRow_other w g k _ (fun e => hk (by simp [Value.ownBlock, e]))⟩, by simp⟩, by simp⟩
        · simp only [List.size_toArray, List.length_append, List.length_take, List.length_drop, Array.length_toList]
          omega
        · rw [htake, ← hlen]
          exact List.take_left
      · have hr := run_append_grow (P := P) w t ty e i z ht hi hz ⟨g, 0, none⟩ n cap xs hxs (hown.cells (g := g) rfl) a m c news hl hnews (by omega) (by omega) (growslice_fits (by omega) hbytes)
        exact ⟨_, _, hr, made cap (by omega), .inr ⟨rfl, grew _⟩, by simp⟩
theorem wpList_app {P : Program} (w : World) {ops : Array Oper} {rest : List Oper} {o : Oper} {a : Act} {Q : Exit → Act → World → Prop} (hgd : o.guard = none) (s x : Operand) (t : TypeId)
    (ho : o.op = .call { callee := .builtin .append, args := #[s, x], argTypes := #[t, t] })
    (base : Nat) (e : TypeId) (i : TypeInfo) (z : Value) (size bytes : Nat) (ht : P.underlying t = some (.slice e)) (hi : P.info? e = some i) (hz : i.zero = some z)
    (hsize : i.size = size) (hby : i.bytes = bytes) (hzs : z.cells.size = size)
    (v : Value) (n : Nat) (xs : List Value) (hs : a.eval s = v) (hown : w.ownsRow base e size v n xs)
    (ao : Option Addr) (m c : Nat) (news : List Value) (hx : a.eval x = .slice ao m c) (hnone : ao = none → m = 0 ∧ c = 0) (hl : news.length = m * size) (hnews : ∀ a, ao = some a → ∀ j u, news[j]? = some u → w.cell? (a.add j) = some u) (h1 : ∀ u ∈ news, u.oneCell' = true)
    (h63 : n + m ≤ 9223372036854775807) (hbytes : (n + m) * bytes ≤ 140737488355328) (hbase : base ≤ w.heap.size)
    (h : ∀ v' w', Hid (w'.ownsRow base e size v' (n + m) (xs ++ news)) → Hid (Grew w w' v v') → Hid (v' = .slice none 0 0 ↔ v = .slice none 0 0 ∧ m = 0) → wpList P ops Q rest (a.put o.dst v') w') : wpList P ops Q (o :: rest) a w := by
  refine wpList_plain hgd fun K hK => ?_
  obtain ⟨v', w', hr, h2, h3, h4⟩ := run_app (P := P) w base t o.type e i z size bytes ht hi hz hsize hby hzs v n xs hown ao m c news hnone hl hnews h1 h63 hbytes hbase
  unfold Oper.wp execOp
  simp only [ho, resolve, invoke, builtin, Sem.run_bind, Sem.run_pure, Result.andThen_ok, List.map_toArray, List.map_cons, List.map_nil, hs, hx, hr]
  exact hK _ _ (h v' w' (hide h2) (hide h3) (hide h4))
theorem cells_new (w : World) (xs : Array Value) (t : TypeId) : ∀ a, some (⟨w.heap.size, 0, none⟩ : Addr) = some a → ∀ j u, xs.toList[j]? = some u → (w.alloc (.cells xs t)).cell? (a.add j) = some u := by
  intro a e j u hu
  cases e
  rw [addr_add', cell_of_row _ _ _ xs t (0, 0) (heap_alloc_new w _)]
  simpa using hu
def parAt (R : List RN) (i : Nat) : Int := match R[i]? with | some n => n.par | none => 0
def kidsTo (R : List RN) (id : Int) (k : Nat) : List Nat := (List.range k).filter fun i => parAt R i == id
def kidsP (R : List RN) (id : Int) : List Nat := if id = 0 then [] else kidsTo R id R.length
theorem kidsTo_hit {R : List RN} {id : Int} {k : Nat} (h : parAt R k = id) : kidsTo R id (k + 1) = kidsTo R id k ++ [k] := by
  unfold kidsTo; rw [List.range_succ, List.filter_append]; simp [h]
theorem kidsTo_miss {R : List RN} {id : Int} {k : Nat} (h : ¬ parAt R k = id) : kidsTo R id (k + 1) = kidsTo R id k := by
  unfold kidsTo; rw [List.range_succ, List.filter_append]; simp [h]
theorem kidsTo_length (R : List RN) (id : Int) (k : Nat) : (kidsTo R id k).length ≤ k := by
  unfold kidsTo; have := List.length_filter_le (fun i => parAt R i == id) (List.range k); simpa using this
theorem parAt_lt {R : List RN} {i : Nat} (h : i < R.length) : parAt R i = R[i].par := by unfold parAt; rw [List.getElem?_eq_getElem h]
def intsOf (l : List Nat) : List Value := l.map fun (i : Nat) => Value.int .i64 (i : Int)
theorem intsOf_one (l : List Nat) : ∀ u ∈ intsOf l, u.oneCell' = true := by
  intro u hu; obtain ⟨_, _, rfl⟩ := List.mem_map.1 hu; rfl
theorem intsOf_snoc (l : List Nat) (k : Nat) : intsOf (l ++ [k]) = intsOf l ++ [.int .i64 k] := by unfold intsOf; simp
theorem intsOf_length (l : List Nat) : (intsOf l).length = l.length := by unfold intsOf; simp
theorem intInfo : (Tryz.prog.info? 3).map (fun i => (i.zero, i.size, i.bytes)) = some (some (.int .i64 0), 1, 8) := by kernel_rfl
def IntsAt (w : World) (B : Nat) (v : Value) (l : List Value) : Prop := w.ownsRow B 3 1 v l.length l
set_option maxRecDepth 100000 in
set_option maxHeartbeats 400000 in
theorem kids_any (S : Nat → Prop) (p : Nat) (R : List RN) (last : Int) (v : Value) (id : Int) (w : World) (h : RefAt S w p R last v) :
    Calls Tryz.prog 67 #[.pointer (some ⟨p, 0, none⟩), .int .i64 id] w fun e w' => ∃ r, e = .returned r ∧ IntsAt w' w.heap.size r (intsOf (kidsP R id)) ∧ Below w.heap.size w w' := by
  obtain ⟨i0, hi, hz0, hz1, hz2⟩ := info_parts intInfo
  obtain ⟨ao, cap, rfl⟩ := h.nil
  have hfew := h.few
  have hp := h.lt
  have c0 := h.c0
  have H := hide h
  clear h
  by_cases hid0 : id = 0
  · subst hid0
    have HK := hide (show kidsP R 0 = [] by simp [kidsP])
    go_enter Tryz.func67, Tryz.ntmps67
    by_cases hR : 0 < R.length
    all_goals
      go_wp2
      go_loopw [5, 6] (fun o i wr => o = .slice none 0 0 ∧ i = .int .i64 0 ∧ wr = w) (fun _ i _ => 1)
      case atStart => exact ⟨rfl, rfl, rfl⟩
      case round =>
        obtain ⟨rfl, rfl, rfl⟩ := hrel
        go_wp2
        go_ret
        refine ⟨_, rfl, ?_, Below.refl _ _⟩
        rw [HK.out]
        exact World.ownsRow_nil _ _ _ _
  · have HK := hide (show kidsP R id = kidsTo R id R.length by simp [kidsP, hid0])
    go_enter Tryz.func67, Tryz.ntmps67
    go_wp2
    go_loopw [5, 6] (fun o i wr => ∃ (k : Nat) (q : Value), k ≤ R.length ∧ i = .int .i64 k ∧ q = o ∧ Hid (IntsAt wr w.heap.size q (intsOf (kidsTo R id k))) ∧ Below w.heap.size w wr) (fun _ i _ => R.length - (intOf i).toNat)
    case atStart => exact ⟨0, _, Nat.zero_le _, rfl, rfl, hide (show IntsAt _ _ _ (intsOf []) from World.ownsRow_nil _ _ _ _), Below.refl _ _⟩
    case round =>
      obtain ⟨k, q, hk, rfl, rfl, hown, hbel⟩ := hrel
      have d9 := (hbel.cell (p := ⟨p, 0, none⟩) hp).trans c0
      by_cases hlt : k < R.length
      · obtain ⟨g, cap', e, hcc, hg, _, _, hcell⟩ := H.out.at (by omega)
        cases e
        have d0 : wr.cell? ⟨g, k * 6 + 1, none⟩ = some (.int .i64 R[k].par) := (hbel.cell (p := ⟨g, k * 6 + 1, none⟩) hg).trans (hcell k 1 hlt (by omega))
        clear hcell
        by_cases hit : R[k].par = id
        · have HX := hide (kidsTo_hit (k := k) ((parAt_lt hlt).trans hit))
          have HL := kidsTo_length R id k
          have hsz := hbel.size
          go_wp2_with ((at_builtin; refine wpList_app _ rfl (.tmp 30) (.tmp 32) 69 rfl w.heap.size 3 i0 (.int .i64 0) 1 8 Tryz.underlying69 hi hz0 hz1 hz2 rfl q _ _ rfl (hown.out.alloc _) (some ⟨wr.heap.size, 0, none⟩) 1 1 [.int .i64 k] rfl (by simp) rfl (cells_new _ _ _) (intsOf_one [k]) (by rw [intsOf_length]; omega) (by rw [intsOf_length]; omega) (by simp; omega) ?_; intro v' w1 ho1 hg1 _))
          have hb1 := (hbel.alloc hsz (.cells #[.int .i64 k] 3)).grown hg1.out.by (by simp; omega) (fun j hj => (World.ownsRow.lt (unhide hown) j hj).1)
          have ho2 : IntsAt w1 w.heap.size v' (intsOf (kidsTo R id (k + 1))) := by
            have := ho1.out
            unfold IntsAt
            rw [HX.out, intsOf_snoc, List.length_append]
            exact this
          have HO := hide ho2
          clear ho1 hg1 ho2 hown
          go_wp2
          go_roundw
          case rel => exact ⟨k + 1, _, by omega, by go_num, rfl, HO, hb1⟩
          case measure => simp [intOf]; omega
        · have HX := hide (kidsTo_miss (k := k) (fun e => hit ((parAt_lt hlt).symm.trans e)))
          rw [← HX.out] at hown
          go_wp2
          go_roundw
          case rel => exact ⟨k + 1, _, by omega, by go_num, rfl, hown, hbel⟩
          case measure => simp [intOf]; omega
      · have hkn : k = R.length := by omega
        subst hkn
        go_wp2
        go_ret
        refine ⟨_, rfl, ?_, hbel⟩
        rw [HK.out]
        exact hown.out
end Go.Proofs.YtobgcaemnpkbmaaGreat
