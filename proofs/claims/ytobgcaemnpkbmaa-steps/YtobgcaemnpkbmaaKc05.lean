/- Cln Lix Doc App Wlk Ids -/
import Derived.Test.YtobgcaemnpkbmaaKc04
import Derived.Lib.Strings
import Derived.Lib.Walk
import Derived.Lib.BufferWrite
import Derived.Lib.UnsafeStr
import Derived.Lib.Hide
import Derived.Laws.MakeOwn
import Derived.WalkKit
import Derived.LaidEqlPtr
import Derived.Laws.OwnMore
import Derived.Maps.AppendAt
import Derived.Deep.RegionHeld3
import Derived.Deep.AppendLies
import Derived.Deep.DrawnRows
namespace Go.Proofs.Ytobgcaemnpkbmaa
open Go.RowKit
theorem byteInfo : (Try.prog.info? 5).map (fun i => (i.zero, i.size, i.bytes)) = some (some (.int .u8 0), 1, 1) := by kernel_rfl
set_option maxHeartbeats 4000000 in
set_option maxRecDepth 100000 in
theorem clone_lite (s : ByteArray) (w : World) (hlim : s.size ≤ 281474976710656) :
    Calls Try.prog 84 #[.string s] w fun e w' => e = .returned (.string s) ∧ Below w.heap.size w w' := by
  by_cases h0 : s.size = 0
  · have hs : s = ⟨#[]⟩ := by
      apply ByteArray.ext
      exact Array.eq_empty_of_size_eq_zero h0
    subst hs
    go_enter Try.func84, Try.ntmps84
    go_wp2
    go_ret
    exact ⟨rfl, Below.refl _ _⟩
  · obtain ⟨i0, hi, hz0, hz1, hz2⟩ := info_parts byteInfo
    have hinfo : (Try.prog.info? 5).map (·.size) = some 1 := by rw [hi]; simp [hz1]
    have hco : (Try.prog).cellsOf 5 = 1 := by simp [Program.cellsOf, hi, hz1]
    obtain ⟨M, hM⟩ : ∃ M, M = madeCells (Value.int .u8 0).cells (((s.size : Nat) : Int).toNat * i0.size) := ⟨_, rfl⟩
    have hMs : M.size = s.size := by rw [hM, size_madeCells, hz1]; simp
    have hmk : ∀ W : World, (Instr.makeSlice 128 (.int .i64 (s.size : Int)) (.int .i64 (s.size : Int))).run Try.prog W = .ok (.slice (some ⟨W.heap.size, 0, none⟩) s.size s.size) (W.alloc (.cells M 5)) := fun W => by
      have h := run_make (P := Try.prog) W 128 5 i0 (.int .u8 0) Try.underlying128 hi hz0 .i64 .i64 (s.size : Int) (s.size : Int) (by omega) (by omega) (by rw [hz2]; omega) (by omega)
      rw [← hM] at h
      simpa using h
    clear hM
    have hcp := Lib.run_copy_row_string (P := Try.prog) (w.alloc (.cells M 5)) 128 9 3 5 w.heap.size 0 s.size s.size s M 5 Try.underlying128 hinfo (heap_alloc_new w _) (Nat.le_refl _) (by omega)
    obtain ⟨Y, hY⟩ : ∃ Y, Y = (M.toList.take 0 ++ Lib.byteCells s.data.toList ++ M.toList.drop (0 + s.size)).toArray := ⟨_, rfl⟩
    rw [← hY] at hcp
    have hYl : Y.toList = Lib.byteCells s.data.toList := by
      rw [hY, List.toList_toArray, List.take_zero, List.nil_append, List.drop_of_length_le (by rw [Array.length_toList]; omega), List.append_nil]
    have hYs : Y.size = s.size := by rw [← Array.length_toList, hYl, Lib.byteCells_length, ← Lib.size_eq]
    have hgY : ((w.alloc (.cells M 5)).setRow w.heap.size Y).heap[w.heap.size]? = some (.cells Y 5 (0, 0)) := setRow_heap _ _ M _ 5 (0, 0) (heap_alloc_new w _)
    have hne : s.data.toList ≠ [] := fun e => h0 (by rw [Lib.size_eq, e]; rfl)
    have hUS := Lib.run_unsafeString_row (P := Try.prog) ((w.alloc (.cells M 5)).setRow w.heap.size Y) 129 3 9 5 Try.underlying129 hco w.heap.size Y.size (by unfold World.shape?; rw [hgY]) s.data.toList hne (by rw [← Lib.size_eq]; omega) (by rw [← Lib.size_eq]; omega)
      (fun j x hx => Lib.cells_of_row hgY Y.size j _ (by rw [List.take_of_length_le (by rw [Array.length_toList]; exact Nat.le_refl _), hYl]; simp [Lib.byteCells, hx]))
    rw [← Lib.size_eq] at hUS
    clear hY
    go_enter Try.func84, Try.ntmps84
    go_wp2
    go_ret
    have hb1 : Below w.heap.size w (w.alloc (.cells M 5)) := (Below.refl _ w).alloc (Nat.le_refl _) _
    have hb2 : Below w.heap.size (w.alloc (.cells M 5)) ((w.alloc (.cells M 5)).setRow w.heap.size Y) := ⟨rfl, rfl, rfl, by simp, fun k hk => setRow_other _ _ _ _ (by omega)⟩
    exact ⟨rfl, Lib.below_freeze (hb1.trans hb2) (p := ⟨w.heap.size, 0, none⟩) (Nat.le_refl _) _⟩
theorem clone_any (s : ByteArray) (w : World) (hlim : s.size ≤ 281474976710656) :
    Calls Try.prog 64 #[.string s] w fun e w' => e = .returned (.string s) ∧ Below w.heap.size w w' := by
  go_enter Try.func64, Try.ntmps64
  go_wp2_with (first | (go_at_call 84; refine (clone_lite s _ hlim).mono ?_; rintro e w1 ⟨rfl, hb⟩))
  go_ret
  exact ⟨rfl, hb⟩
theorem own_any (s : ByteArray) (w : World) (hlim : s.size ≤ 281474976710656) :
    Calls Try.prog 46 #[.string s] w fun e w' => e = .returned (.string s) ∧ Below w.heap.size w w' := by
  go_enter Try.func46, Try.ntmps46
  go_wp2_with (first | (go_at_call 64; refine (clone_any s _ hlim).mono ?_; rintro e w1 ⟨rfl, hb⟩))
  go_ret
  exact ⟨rfl, hb⟩
end Go.Proofs.Ytobgcaemnpkbmaa
namespace Go.Proofs.Ytobgcaemnpkbmaa
open Go.RowKit
def Plain (w : World) (b : Nat) : Prop := ∃ c t, w.heap[b]? = some (.cells c t (0, 0))
theorem nodeInfoP : (Try.prog.info? 79).map (fun i => (i.zero, i.size, i.bytes)) = some (some (.agg #[.int .i64 0, .int .i64 0, .string ⟨#[]⟩, .string ⟨#[]⟩, .slice none 0 0, .pointer none, .slice none 0 0]), 7, 104) := by kernel_rfl
theorem run_eql_ptr {w : World} {a b : Nat} (ha : Plain w a) (hb : Plain w b) : (binOp .eql 69 (.pointer (some ⟨a, 0, none⟩)) (.pointer (some ⟨b, 0, none⟩))).run Try.prog w = .ok (.bool (a == b)) w := by
  obtain ⟨i0, hi, _, hz1, _⟩ := info_parts nodeInfoP
  by_cases h : a = b
  · subst h
    rw [run_eql_ptr_same w _ Try.underlying69 hi]
    simp
  · obtain ⟨ca, ta, ha⟩ := ha
    obtain ⟨cb, tb, hb⟩ := hb
    rw [run_eql_ptr_other w Try.underlying69 hi (by omega) (fun e => h (by cases e; rfl)) ha hb]
    simp [h]
theorem run_neq_ptr {w : World} {a b : Nat} (ha : Plain w a) (hb : Plain w b) : (binOp .neq 69 (.pointer (some ⟨a, 0, none⟩)) (.pointer (some ⟨b, 0, none⟩))).run Try.prog w = .ok (.bool (a != b)) w := by
  have h := run_eql_ptr ha hb
  simp only [binOp] at h ⊢
  simp only [Sem.run_bind] at h ⊢
  cases hr : (Op.equal 69 (.pointer (some ⟨a, 0, none⟩)) (.pointer (some ⟨b, 0, none⟩))).run Try.prog w with
  | ok v w' =>
    rw [hr] at h
    simp at h
    obtain ⟨rfl, rfl⟩ := h
    simp [bne]
  | _ => rw [hr] at h; simp [Result.andThen] at h
set_option maxHeartbeats 400000 in
theorem index_any (g n c : Nat) (K : List Nat) (x : Nat) (w : World) (hn : n = K.length) (hbig : n ≤ 1099511627776) (k : Nat) (hk : k < n) (hx : K[k]? = some x) (hfst : ∀ j, j < k → K[j]? ≠ some x) (hc : ∀ j y, K[j]? = some y → w.cell? ⟨g, j, none⟩ = some (.pointer (some ⟨y, 0, none⟩))) (hp : ∀ y, y ∈ K → Plain w y) :
    Calls Try.prog 47 #[.slice (some ⟨g, 0, none⟩) n c, .pointer (some ⟨x, 0, none⟩)] w fun e w' => e = .returned (.int .i64 k) ∧ w' = w := by
  have hpx : Plain w x := hp x (List.mem_of_getElem? hx)
  have HC := hide hc
  have HP := hide hp
  have HF := hide hfst
  have HN := hide hn
  clear hc hp hfst hn
  go_enter Try.func47, Try.ntmps47
  go_wp2_with fail
  go_loopw [8] (fun i wr => ∃ j : Nat, j ≤ k ∧ i = .int .i64 j ∧ wr = w) (fun i _ => n - (intOf i).toNat)
  case atStart => exact ⟨0, Nat.zero_le _, rfl, rfl⟩
  case round =>
    obtain ⟨j, hj, rfl, rfl⟩ := hrel
    have hjn : j < K.length := by have := HN.out; omega
    have hy := List.getElem?_eq_getElem hjn
    have cj := HC.out j _ hy
    have heq := run_eql_ptr hpx (HP.out _ (List.getElem_mem hjn))
    have hlt : j < n := by omega
    by_cases e : j = k
    · subst e
      have hxy : x = K[j] := by rw [hy] at hx; exact (Option.some.inj hx).symm
      rw [hxy, beq_self_eq_true] at heq
      subst hxy
      go_wp2_with fail
      go_ret
      exact ⟨rfl, rfl⟩
    · have hxy : (x == K[j]) = false := by
        have := HF.out j (by omega)
        rw [hy] at this
        simp
        exact fun e => this (by rw [e])
      rw [hxy] at heq
      go_wp2_with fail
      go_roundw
      case rel => exact ⟨j + 1, by omega, by go_num, trivial⟩
      case measure => simp [intOf]; omega
end Go.Proofs.Ytobgcaemnpkbmaa
namespace Go.Proofs.Ytobgcaemnpkbmaa
open Go.RowKit
structure PN where
  id : Int
  par : Int
  tag : ByteArray
  key : Int
  text : ByteArray
  ats : List (ByteArray × ByteArray)
def nmOf (l : List (ByteArray × ByteArray)) (i : Nat) : ByteArray := (l.getD i (ByteArray.empty, ByteArray.empty)).1
def vlOf (l : List (ByteArray × ByteArray)) (i : Nat) : ByteArray := (l.getD i (ByteArray.empty, ByteArray.empty)).2
structure RN extends PN where
  ao : Option Addr
  an : Nat
  ac : Nat
def RN.cells (n : RN) : List Value := [.int .i64 n.id, .int .i64 n.par, .string n.tag, .int .i64 n.key, .slice n.ao n.an n.ac, .string n.text]
def rowOf (R : List RN) : List Value := R.flatMap RN.cells
structure RN.Ok (S : Nat → Prop) (w : World) (n : RN) : Prop where
  an : n.an = n.ats.length
  few : n.an ≤ 5
  nil : n.ao = none → n.an = 0 ∧ n.ac = 0
  tag : n.tag.size ≤ maxLen
  text : n.text.size ≤ maxLen
  at' : AttrsAt w n.ao n.an (nmOf n.ats) (vlOf n.ats)
  own : ∀ ad, n.ao = some ad → S ad.block ∧ ad.block < w.heap.size
theorem RN.Ok.mono {S S' : Nat → Prop} {w : World} {n : RN} (h : n.Ok S w) (hS : ∀ b, b < w.heap.size → S b → S' b) : n.Ok S' w :=
  ⟨h.an, h.few, h.nil, h.tag, h.text, h.at', fun ad e => ⟨hS _ (h.own ad e).2 (h.own ad e).1, (h.own ad e).2⟩⟩
theorem RN.Ok.below {S : Nat → Prop} {w w' : World} {n : RN} (h : n.Ok S w) (hb : Below w.heap.size w w') : n.Ok S w' :=
  ⟨h.an, h.few, h.nil, h.tag, h.text, h.at'.below hb, fun ad e => ⟨(h.own ad e).1, Nat.lt_of_lt_of_le (h.own ad e).2 hb.size⟩⟩
theorem ownsRow_below {w w' : World} {base : Nat} {e : TypeId} {size : Nat} {v : Value} {n : Nat} {xs : List Value} (h : w.ownsRow base e size v n xs) (hb : Below w.heap.size w w') : w'.ownsRow base e size v n xs :=
  h.kept (row := none) ⟨hb.os, hb.tape, hb.output, hb.size, fun k hk _ => hb.block k hk⟩ (by cases hv : v.ownBlock <;> simp)
def atP (R : List RN) (id : Int) : Int := match R.findIdx? (fun n => n.id == id) with | some k => (k : Int) | none => -1
theorem atP_hit {R : List RN} {id : Int} {k : Nat} (hk : k < R.length) (h : R[k].id = id) (hall : ∀ j, (hj : j < R.length) → j < k → R[j].id ≠ id) : atP R id = k := by
  unfold atP
  have : R.findIdx? (fun n => n.id == id) = some k := by
    rw [List.findIdx?_eq_some_iff_getElem]
    refine ⟨hk, by simp [h], fun j hj => ?_⟩
    simpa using hall j (by omega) hj
  rw [this]
theorem atP_none {R : List RN} {id : Int} (hall : ∀ j, (hj : j < R.length) → R[j].id ≠ id) : atP R id = -1 := by
  unfold atP
  have : R.findIdx? (fun n => n.id == id) = none := by
    rw [List.findIdx?_eq_none_iff]
    intro x hx
    obtain ⟨j, hj, rfl⟩ := List.getElem_of_mem hx
    simpa using hall j hj
  rw [this]
end Go.Proofs.Ytobgcaemnpkbmaa
namespace Go.Proofs.Ytobgcaemnpkbmaa
open Go.RowKit
theorem addr_add' (b o j : Nat) : (⟨b, o, none⟩ : Addr).add j = ⟨b, o + j, none⟩ := by
  unfold Addr.add; split
  · next h => subst h; rfl
  · rfl
def Grew (w w' : World) (v v' : Value) : Prop := (v'.ownBlock = v.ownBlock ∧ w.grownBy w' v.ownBlock ∧ w'.heap.size = w.heap.size) ∨ (v'.ownBlock = some w.heap.size ∧ w.grownBy w' none)
theorem Grew.by {w w' : World} {v v' : Value} (h : Grew w w' v v') : w.grownBy w' v.ownBlock := by
  rcases h with ⟨_, h, _⟩ | ⟨_, h⟩
  · exact h
  · exact ⟨h.os, h.tape, h.output, h.size, fun k hk _ => h.block k hk (by simp)⟩
theorem Grew.size {w w' : World} {v v' : Value} (h : Grew w w' v v') : w.heap.size ≤ w'.heap.size := h.by.size
theorem Grew.at {w w' : World} {v v' : Value} (h : Grew w w' v v') : v'.ownBlock = v.ownBlock ∨ v'.ownBlock = some w.heap.size := h.imp (·.1) (·.1)
theorem run_app {P : Program} (w : World) (base : Nat) (t ty e : TypeId) (i : TypeInfo) (z : Value) (size bytes : Nat) (ht : P.underlying t = some (.slice e)) (hi : P.info? e = some i) (hz : i.zero = some z)
    (hsize : i.size = size) (hby : i.bytes = bytes) (hzs : z.cells.size = size)
    (v : Value) (n : Nat) (xs : List Value) (hown : w.ownsRow base e size v n xs)
    (ao : Option Addr) (m c : Nat) (news : List Value) (hnone : ao = none → m = 0 ∧ c = 0) (hl : news.length = m * size) (hnews : ∀ a, ao = some a → ∀ j u, news[j]? = some u → w.cell? (a.add j) = some u) (h1 : ∀ u ∈ news, u.oneCell' = true)
    (h63 : n + m ≤ 9223372036854775807) (hbytes : (n + m) * bytes ≤ 140737488355328) (hbase : base ≤ w.heap.size) :
    ∃ v' w', (Builtin.append_ #[t, t] ty #[v, .slice ao m c]).run P w = .ok v' w' ∧ w'.ownsRow base e size v' (n + m) (xs ++ news) ∧ Grew w w' v v' ∧
      (v' = .slice none 0 0 ↔ v = .slice none 0 0 ∧ m = 0) := by
  subst hsize hby
  have hm63 : n + m ≤ maxLen := by unfold maxLen; omega
  have hxs := hown.1
  have hlen : (xs ++ news).length = (n + m) * i.size := by rw [List.length_append, hxs, hl, Nat.add_mul]
  cases ao with
  | none =>
    obtain ⟨rfl, rfl⟩ := hnone rfl
    have hnn : news = [] := List.eq_nil_of_length_eq_zero (by simpa using hl)
    subst hnn
    refine ⟨v, w, run_append_owned_none w base t ty e i i.size ht hi v n xs hown, by simpa using hown, .inl ⟨rfl, World.grownBy.refl _ _, rfl⟩, by simp⟩
  | some a =>
    have hnews := hnews a rfl
    have made : ∀ old, old < n + m → (w.drew.alloc (.cells (xs.toArray ++ news.toArray ++ Builtin.zeroCells z.cells (grownCap w (n + m) old e - (n + m))) e)).ownsRow base e i.size
        (.slice (some ⟨w.heap.size, 0, none⟩) (n + m) (grownCap w (n + m) old e)) (n + m) (xs ++ news) := by
      intro old _
      have hge := grownCap_ge w (n + m) old e
      refine ⟨hlen, .inr ⟨w.heap.size, _, _, rfl, hbase, heap_alloc_new w.drew _, hge, grownCap_le_maxLen w (n + m) old e hm63, ?_, ?_⟩⟩
      · rw [Array.size_append, Array.size_append, size_zeroCells, hzs, List.size_toArray, List.size_toArray, hxs, hl, ← Nat.add_mul, ← Nat.add_mul]
        congr 1
        omega
      · rw [← hlen, Array.toList_append, Array.toList_append]
        exact List.take_left
    have grew : ∀ o : Obj, w.grownBy (w.drew.alloc o) none := fun o => ⟨rfl, rfl, rfl, by simp, fun k hk _ => heap_alloc_old w.drew _ hk⟩
    rcases hown.2 with ⟨rfl, rfl⟩ | ⟨g, cap, cur, rfl, hbg, hg, hnc, hcm, hcs, htake⟩
    · have hx : xs = [] := List.eq_nil_of_length_eq_zero (by simpa using hxs)
      subst hx
      by_cases hm : m = 0
      · subst hm
        have hnn : news = [] := List.eq_nil_of_length_eq_zero (by simpa using hl)
        subst hnn
        refine ⟨.slice none 0 0, w, ?_, World.ownsRow_nil w base e i.size, .inl ⟨rfl, World.grownBy.refl _ _, rfl⟩, by simp⟩
        simp [Builtin.append_, run_underlying ht, sizeOf, typeInfo, hi, Builtin.lenOf, Builtin.firstCells, loadCells, loadCellsFrom]
      · have hr := run_append_nil (P := P) w t ty e i z ht hi hz a m c news hl hnews (by omega) (by omega) (by have hb := hbytes; simp only [Nat.zero_add] at hb; omega)
        have hgr := made 0 (by omega)
        simp only [Nat.zero_add, List.nil_append, Array.empty_append] at hgr ⊢
        exact ⟨_, _, hr, hgr, .inr ⟨rfl, grew _⟩, by simp [hm]⟩
    · by_cases hroom : n + m ≤ cap
      · have hfit : n * i.size + news.length ≤ cur.size := by rw [hl, hcs, ← Nat.add_mul]; exact Nat.mul_le_mul_right _ hroom
        have hr := run_append_room (P := P) w t ty e i ht hi g n cap cur hg a m c news hl hnews h1 hroom hfit
        refine ⟨_, _, hr, ⟨hlen, .inr ⟨g, cap, _, rfl, hbg, setRow_heap w g cur _ e _ hg, hroom, hcm, ?_, ?_⟩⟩, .inl ⟨rfl, ⟨rfl, rfl, rfl, by simp, fun k _ hk => setRow_other w g k _ (fun e => hk (by simp [Value.ownBlock, e]))⟩, by simp⟩, by simp⟩
        · simp only [List.size_toArray, List.length_append, List.length_take, List.length_drop, Array.length_toList]
          omega
        · rw [htake, ← hlen]
          exact List.take_left
      · have hr := run_append_grow (P := P) w t ty e i z ht hi hz ⟨g, 0, none⟩ n cap xs hxs (hown.cells (g := g) rfl) a m c news hl hnews (by omega) (by omega) (growslice_fits (by omega) hbytes)
        exact ⟨_, _, hr, made cap (by omega), .inr ⟨rfl, grew _⟩, by simp⟩
theorem wpList_app {P : Program} (w : World) {ops : Array Oper} {rest : List Oper} {o : Oper} {a : Act} {Q : Exit → Act → World → Prop} (hgd : o.guard = none) (s x : Operand) (t : TypeId)
    (ho : o.op = .call { callee := .builtin .append, args := #[s, x], argTypes := #[t, t] })
    (base : Nat) (e : TypeId) (i : TypeInfo) (z : Value) (size bytes : Nat) (ht : P.underlying t = some (.slice e)) (hi : P.info? e = some i) (hz : i.zero = some z)
    (hsize : i.size = size) (hby : i.bytes = bytes) (hzs : z.cells.size = size)
    (v : Value) (n : Nat) (xs : List Value) (hs : a.eval s = v) (hown : w.ownsRow base e size v n xs)
    (ao : Option Addr) (m c : Nat) (news : List Value) (hx : a.eval x = .slice ao m c) (hnone : ao = none → m = 0 ∧ c = 0) (hl : news.length = m * size) (hnews : ∀ a, ao = some a → ∀ j u, news[j]? = some u → w.cell? (a.add j) = some u) (h1 : ∀ u ∈ news, u.oneCell' = true)
    (h63 : n + m ≤ 9223372036854775807) (hbytes : (n + m) * bytes ≤ 140737488355328) (hbase : base ≤ w.heap.size)
    (h : ∀ v' w', Hid (w'.ownsRow base e size v' (n + m) (xs ++ news)) → Hid (Grew w w' v v') → Hid (v' = .slice none 0 0 ↔ v = .slice none 0 0 ∧ m = 0) → wpList P ops Q rest (a.put o.dst v') w') : wpList P ops Q (o :: rest) a w := by
  refine wpList_plain hgd fun K hK => ?_
  obtain ⟨v', w', hr, h2, h3, h4⟩ := run_app (P := P) w base t o.type e i z size bytes ht hi hz hsize hby hzs v n xs hown ao m c news hnone hl hnews h1 h63 hbytes hbase
  unfold Oper.wp execOp
  simp only [ho, resolve, invoke, builtin, Sem.run_bind, Sem.run_pure, Result.andThen_ok, List.map_toArray, List.map_cons, List.map_nil, hs, hx, hr]
  exact hK _ _ (h v' w' (hide h2) (hide h3) (hide h4))
theorem cells_new (w : World) (xs : Array Value) (t : TypeId) : ∀ a, some (⟨w.heap.size, 0, none⟩ : Addr) = some a → ∀ j u, xs.toList[j]? = some u → (w.alloc (.cells xs t)).cell? (a.add j) = some u := by
  intro a e j u hu
  cases e
  rw [addr_add', cell_of_row _ _ _ xs t (0, 0) (heap_alloc_new w _)]
  simpa using hu
def parAt (R : List RN) (i : Nat) : Int := match R[i]? with | some n => n.par | none => 0
def kidsTo (R : List RN) (id : Int) (k : Nat) : List Nat := (List.range k).filter fun i => parAt R i == id
def kidsP (R : List RN) (id : Int) : List Nat := if id = 0 then [] else kidsTo R id R.length
theorem kidsTo_hit {R : List RN} {id : Int} {k : Nat} (h : parAt R k = id) : kidsTo R id (k + 1) = kidsTo R id k ++ [k] := by
  unfold kidsTo; rw [List.range_succ, List.filter_append]; simp [h]
theorem kidsTo_miss {R : List RN} {id : Int} {k : Nat} (h : ¬ parAt R k = id) : kidsTo R id (k + 1) = kidsTo R id k := by
  unfold kidsTo; rw [List.range_succ, List.filter_append]; simp [h]
theorem parAt_lt {R : List RN} {i : Nat} (h : i < R.length) : parAt R i = R[i].par := by unfold parAt; rw [List.getElem?_eq_getElem h]
def intsOf (l : List Nat) : List Value := l.map fun (i : Nat) => Value.int .i64 (i : Int)
theorem intInfo : (Try.prog.info? 3).map (fun i => (i.zero, i.size, i.bytes)) = some (some (.int .i64 0), 1, 8) := by kernel_rfl
def IntsAt (w : World) (B : Nat) (v : Value) (l : List Value) : Prop := w.ownsRow B 3 1 v l.length l
end Go.Proofs.Ytobgcaemnpkbmaa
namespace Go.Proofs.Ytobgcaemnpkbmaa
open Go.RowKit
def idAt (R : List RN) (i : Nat) : Int := match R[i]? with | some n => n.id | none => 0
theorem idAt_lt {R : List RN} {i : Nat} (h : i < R.length) : idAt R i = R[i].id := by unfold idAt; rw [List.getElem?_eq_getElem h]
def walkP (R : List RN) : Nat → Nat → Int → List (Nat × Int)
  | 0, _, _ => []
  | f + 1, a, d => (a, d) :: (kidsP R (idAt R a)).flatMap fun k => walkP R f k (d + 1)
def fitP (R : List RN) : Nat → Nat → Prop
  | 0, _ => False
  | f + 1, a => a < R.length ∧ ∀ k, k ∈ kidsP R (idAt R a) → fitP R f k
def places (W : List (Nat × Int)) : List Value := W.map fun x => Value.int .i64 (x.1 : Int)
def deeps (W : List (Nat × Int)) : List Value := W.map fun x => Value.int .i64 x.2
theorem IntsAt.some {w : World} {B : Nat} {ao : Option Addr} {n c : Nat} {l : List Value} (h : IntsAt w B (.slice ao n c) l) (h0 : 0 < l.length) : ∃ g, ao = some ⟨g, 0, none⟩ ∧ n ≤ c ∧ B ≤ g ∧ g < w.heap.size ∧ ∀ j, j < l.length → w.cell? ⟨g, j, none⟩ = l[j]? := by
  rcases h.2 with ⟨_, e⟩ | ⟨g, cap, cur, e, hb, hg, hc, _⟩
  · omega
  · cases e
    exact ⟨g, rfl, hc, hb, (Array.getElem?_eq_some_iff.1 hg).1, fun j hj => World.ownsRow.cellAt h j (by omega)⟩
theorem IntsAt.below {w w' : World} {B : Nat} {v : Value} {l : List Value} (h : IntsAt w B v l) (hb : Below w.heap.size w w') : IntsAt w' B v l := ownsRow_below h hb
theorem IntsAt.kept {w w' : World} {B : Nat} {v : Value} {l : List Value} {row : Option Nat} (h : IntsAt w B v l) (hg : w.grownBy w' row) (hne : v.ownBlock = none ∨ v.ownBlock ≠ row) : IntsAt w' B v l := World.ownsRow.kept h hg hne
theorem IntsAt.mono {w : World} {B B' : Nat} {v : Value} {l : List Value} (h : IntsAt w B v l) (hB : B' ≤ B) : IntsAt w B' v l := by
  refine ⟨h.1, h.2.imp id ?_⟩
  rintro ⟨g, cap, cur, e, hb, r⟩
  exact ⟨g, cap, cur, e, Nat.le_trans hB hb, r⟩
theorem IntsAt.none {w : World} {B : Nat} {ao : Option Addr} {n c : Nat} {l : List Value} (h : IntsAt w B (.slice ao n c) l) (e : ao = Option.none) : n = 0 ∧ c = 0 := by
  rcases h.2 with ⟨e', _⟩ | ⟨g, cap, cur, e', _⟩
  · cases e'; exact ⟨rfl, rfl⟩
  · cases e'; cases e
structure Walked (w w' : World) (W : List (Nat × Int)) (r1 r2 : Value) : Prop where
  o1 : IntsAt w' w.heap.size r1 (places W)
  o2 : IntsAt w' w.heap.size r2 (deeps W)
  bel : Below w.heap.size w w'
structure WInv (w wr : World) (kv q1 q2 : Value) (K : List Nat) (W : List (Nat × Int)) : Prop where
  o1 : IntsAt wr w.heap.size q1 (places W)
  o2 : IntsAt wr w.heap.size q2 (deeps W)
  ok : IntsAt wr w.heap.size kv (intsOf K)
  n12 : q2.ownBlock ≠ q1.ownBlock
  n1 : kv.ownBlock = none ∨ kv.ownBlock ≠ q1.ownBlock
  n2 : kv.ownBlock = none ∨ kv.ownBlock ≠ q2.ownBlock
  bel : Below w.heap.size w wr
theorem own_lt {w : World} {B : Nat} {e : TypeId} {size : Nat} {v : Value} {n : Nat} {xs : List Value} (h : w.ownsRow B e size v n xs) {M : Nat} (hM : w.heap.size ≤ M) : v.ownBlock ≠ Option.some M := by
  intro e
  have := (h.lt M e).2
  omega
theorem grow_ne {w w' : World} {q q' v : Value} (hg : Grew w w' q q') (hne : v.ownBlock = none ∨ v.ownBlock ≠ q.ownBlock) (hlt : v.ownBlock ≠ Option.some w.heap.size) : v.ownBlock = none ∨ v.ownBlock ≠ q'.ownBlock := by
  rcases hg.at with e | e
  · rw [e]; exact hne
  · rw [e]; exact .inr hlt
theorem WInv.far {w wr w1 : World} {kv q1 q2 r : Value} {K : List Nat} {W : List (Nat × Int)} (h : WInv w wr kv q1 q2 K W) {l : List Value} (hr : IntsAt w1 wr.heap.size r l) : r.ownBlock = Option.none ∨ r.ownBlock ≠ q1.ownBlock := by
  cases hq : r.ownBlock with
  | none => exact .inl rfl
  | some b =>
    refine .inr fun e => ?_
    have h1 := (World.ownsRow.lt hr b hq).1
    have h2 := (World.ownsRow.lt h.o1 b e.symm).2
    omega
theorem WInv.step {w wr w1 w2 w3 : World} {kv q1 q2 q1' q2' r1 r2 : Value} {K : List Nat} {W V : List (Nat × Int)} (h : WInv w wr kv q1 q2 K W) (hV : Walked wr w1 V r1 r2)
    (ho1 : IntsAt w2 w.heap.size q1' (places (W ++ V))) (hg1 : Grew w1 w2 q1 q1') (ho2 : IntsAt w3 w.heap.size q2' (deeps (W ++ V))) (hg2 : Grew w2 w3 q2 q2') : WInv w w3 kv q1' q2' K (W ++ V) := by
  have b1 := hV.bel
  have e1 := h.o1.below b1
  have e2 := h.o2.below b1
  have e3 := h.ok.below b1
  have k2 := e2.kept hg1.by (.inr h.n12)
  have k3 := e3.kept hg1.by h.n1
  have m1 : q2.ownBlock ≠ q1'.ownBlock := by
    rcases hg1.at with e | e
    · rw [e]; exact h.n12
    · rw [e]; exact own_lt e2 (Nat.le_refl _)
  have m3 := grow_ne hg1 h.n1 (own_lt e3 (Nat.le_refl _))
  have m4 := grow_ne hg2 h.n2 (own_lt k3 (Nat.le_refl _))
  have m5 : q2'.ownBlock ≠ q1'.ownBlock := by
    rcases hg2.at with e | e
    · rw [e]; exact m1
    · rw [e]; exact Ne.symm (own_lt ho1 (Nat.le_refl _))
  refine ⟨ho1.kept hg2.by (.inr (Ne.symm m1)), ho2, k3.kept hg2.by h.n2, m5, m3, m4, ?_⟩
  have hsz := h.bel.size
  have c1 := h.bel.trans (b1.mono hsz)
  have c2 := c1.grown hg1.by (by have := b1.size; omega) (fun j hj => (h.o1.lt j hj).1)
  exact c2.grown hg2.by (by have := b1.size; have := hg1.size; omega) (fun j hj => (h.o2.lt j hj).1)
end Go.Proofs.Ytobgcaemnpkbmaa
namespace Go.Proofs.Ytobgcaemnpkbmaa
open Go.RowKit
end Go.Proofs.Ytobgcaemnpkbmaa
