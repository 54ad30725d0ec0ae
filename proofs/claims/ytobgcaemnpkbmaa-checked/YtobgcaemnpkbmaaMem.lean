/-
  Laws for rows of structs that a call makes: make, copy.
-/
import Derived.Test.YtobgcaemnpkbmaaRef
import Derived.Deep.OwnRows
import Derived.Laws.CopyRow
namespace Go.Proofs.Ytobgcaemnpkbmaa
open Go.RowKit

theorem rowIs_made_any (w : World) (z : Array Value) (n : Nat) (t : TypeId) : ∃ f, (w.alloc (.cells (madeCells z n) t)).rowIs w.heap.size t n f := by
  refine ⟨fun i => z[i % z.size]!, ?_⟩
  have h := World.rowIs_alloc w (madeCells z n) t (fun i => z[i % z.size]!) (fun i hi => by
    rw [size_madeCells] at hi
    simp [madeCells, hi])
  rw [size_madeCells] at h
  exact h

/-- make of a slice of structs: a new row. -/
theorem wpList_make_rows {P : Program} {w : World} {ops : Array Oper} {rest : List Oper} {o : Oper} {a : Act} {Q : Exit → Act → World → Prop}
    (hg : o.guard = none) (l c : Operand) (t : TypeId) (hop : o.op = Op.makeSlice t l c)
    (e : TypeId) (i : TypeInfo) (z : Value) (size bytes : Nat) (h1 : P.underlying t = some (.slice e)) (h2 : P.info? e = some i) (h3 : i.zero = some z) (h4 : i.size = size) (h5 : i.bytes = bytes)
    (kl kc : IntKind) (A : Int) (n : Nat) (hl : a.eval l = .int kl A) (hc : a.eval c = .int kc A) (hA : A = (n : Int)) (b2 : bytes * n ≤ 281474976710656) (b3 : n ≤ 9223372036854775807)
    (hK : ∀ w' f, Hid (w'.rowIs w.heap.size e (n * size) f) → w'.heap.size = w.heap.size + 1 → Below w.heap.size w w' → wpList P ops Q rest (a.put o.dst (.slice (some ⟨w.heap.size, 0, none⟩) n n)) w') :
    wpList P ops Q (o :: rest) a w := by
  refine wpList_plain hg fun K hK' => ?_
  have hb' : (i.bytes : Int) * (n : Int) ≤ 281474976710656 := by
    have h : ((i.bytes * n : Nat) : Int) ≤ 281474976710656 := by rw [h5]; omega
    rwa [Int.natCast_mul] at h
  have hrun := run_make (P := P) w t e i z h1 h2 h3 kl kc n n (by omega) (Int.le_refl _) hb' (by omega)
  rw [Int.toNat_natCast, h4] at hrun
  obtain ⟨f, hf⟩ := rowIs_made_any w z.cells (n * size) e
  unfold Oper.wp
  simp [execOp, hop, hl, hc, hA, hrun, Result.andThen]
  exact hK' _ _ (hK _ f (hide hf) (by simp) ((Below.refl _ _).alloc (Nat.le_refl _) _))

theorem range_map_get {α : Type} (F : Nat → α) (n j : Nat) (v : α) (h : ((List.range n).map F)[j]? = some v) : j < n ∧ v = F j := by
  rw [List.getElem?_map] at h
  by_cases hj : j < n
  · rw [List.getElem?_range hj] at h
    exact ⟨hj, (Option.some.inj h).symm⟩
  · rw [List.getElem?_eq_none (by simp; omega)] at h
    cases h

/-- copy of structs to a row's head. -/
theorem wpList_copy_rows {P : Program} {w : World} {ops : Array Oper} {rest : List Oper} {o : Oper} {a : Act} {Q : Exit → Act → World → Prop} (hgd : o.guard = none) (d s : Operand) (dT sT : TypeId)
    (ho : o.op = .call { callee := .builtin .copy, args := #[d, s], argTypes := #[dT, sT] }) (elem : TypeId) (hu : P.underlying dT = some (.slice elem)) (sz : Nat) (hsz : (P.info? elem).map (·.size) = some sz)
    (g dLen dCap : Nat) (sp : Option Addr) (sLen sCap : Nat) (hd : a.eval d = .slice (some ⟨g, 0, none⟩) dLen dCap) (hs : a.eval s = .slice sp sLen sCap) (hle : sLen ≤ dLen)
    (t : TypeId) (N : Nat) (f : Nat → Value) (hrow : w.rowIs g t N f) (F : Nat → Value) (hsrc : 0 < sLen → ∃ ad, sp = some ad ∧ ∀ j, j < sLen * sz → w.cell? (ad.add j) = some (F j))
    (hfit : sLen * sz ≤ N) (h1 : ∀ j, j < sLen * sz → (F j).oneCell' = true) (B : Nat) (w0 : World) (hb : Below B w0 w) (hBg : B ≤ g)
    (h : ∀ w', Hid (w'.rowIs g t N (fun j => if j < sLen * sz then F j else f j)) → w'.heap.size = w.heap.size → Below B w0 w' → wpList P ops Q rest (a.put o.dst (goInt sLen)) w') :
    wpList P ops Q (o :: rest) a w := by
  refine wpList_plain hgd fun K hK => ?_
  obtain ⟨i, hi, hisz⟩ := Option.map_eq_some_iff.1 hsz
  obtain ⟨cur, hcur, hcs, hcf⟩ := hrow
  have hmin : Nat.min sLen dLen = sLen := Nat.min_eq_left hle
  have hlen : ((List.range (sLen * sz)).map F).length = sLen * sz := by simp
  have hst := run_storeCells_at P g 0 t ((List.range (sLen * sz)).map F) 0 cur w hcur (by rw [hlen]; omega) (fun v hv => by
    obtain ⟨j, hj, rfl⟩ := List.mem_map.1 hv
    exact h1 j (List.mem_range.1 hj))
  have hrun : (Builtin.copy_ #[dT, sT] o.type #[.slice (some ⟨g, 0, none⟩) dLen dCap, .slice sp sLen sCap]).run P w =
      .ok (goInt sLen) (w.setRow g (cur.toList.take (0 + 0) ++ (List.range (sLen * sz)).map F ++ cur.toList.drop (0 + 0 + ((List.range (sLen * sz)).map F).length)).toArray) := by
    by_cases hz : 0 < sLen
    · obtain ⟨ad, rfl, hcell⟩ := hsrc hz
      have hl := run_loadCells_list (P := P) w ad ((List.range (sLen * sz)).map F) (fun j v hv => by
        obtain ⟨hj, rfl⟩ := range_map_get F _ _ _ hv
        exact hcell j hj)
      rw [hlen] at hl
      simp only [Builtin.copy_, Builtin.lenOf, Builtin.firstCells, sizeOf, typeInfo]
      simp [run_underlying hu, hi, hisz, hmin, hl, hst]
    · have hz : sLen = 0 := by omega
      subst hz
      have hst' : (storeCells ⟨g, 0, none⟩ [] 0).run P w = .ok () w := rfl
      have hself := setRow_self w g cur t (0, 0) hcur
      cases sp with
      | none =>
        simp [Builtin.copy_, run_underlying hu, Builtin.lenOf, Builtin.firstCells, sizeOf, typeInfo, hi, hst', hself]
      | some ad =>
        have hl := run_loadCells_list (P := P) w ad [] (fun j v hv => by simp at hv)
        simp at hl
        simp [Builtin.copy_, run_underlying hu, Builtin.lenOf, Builtin.firstCells, sizeOf, typeInfo, hi, hst', hself, hl]
  unfold Oper.wp
  simp [execOp, ho, resolve, invoke, builtin, hd, hs, hrun, Result.andThen]
  refine hK _ _ (h _ (hide ?_) (by simp [World.setRow]) ?_)
  · refine ⟨_, setRow_heap w g cur _ t _ hcur, by simp; omega, fun j hj => ?_⟩
    by_cases hjl : j < sLen * sz
    · simp only [hjl, if_true]
      simp [List.getElem?_append, hjl]
    · simp only [hjl, if_false]
      rw [← hcf j hj]
      simp [List.getElem?_append, hjl]
      congr 1
      omega
  · exact hb.trans ⟨rfl, rfl, rfl, by simp [World.setRow], fun k hk => setRow_other w g k _ (by omega)⟩

end Go.Proofs.Ytobgcaemnpkbmaa
