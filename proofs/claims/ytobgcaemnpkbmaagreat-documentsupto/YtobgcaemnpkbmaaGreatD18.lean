/- Nd Seq -/
import Derived.Handy
import Derived.Test.YtobgcaemnpkbmaaGreatD17
import Derived.Laws.StructEq
import Derived.ChangeKeysEq
namespace Go.Proofs.YtobgcaemnpkbmaaGreat
open Go.RowKit
def needP (x : Pat) : Pat :=
  if x.kind = 1 then ⟨x.kind, x.id, 0, 0, x.key, x.tag, ⟨#[]⟩, x.text⟩
  else if x.kind = 2 then ⟨x.kind, x.id, x.par, x.bef, 0, ⟨#[]⟩, ⟨#[]⟩, ⟨#[]⟩⟩
  else if x.kind = 4 then ⟨x.kind, x.id, 0, 0, 0, ⟨#[]⟩, x.name, x.text⟩
  else if x.kind = 5 then ⟨x.kind, x.id, 0, 0, 0, ⟨#[]⟩, x.name, ⟨#[]⟩⟩
  else if x.kind = 6 then ⟨x.kind, x.id, 0, 0, 0, ⟨#[]⟩, ⟨#[]⟩, x.text⟩
  else ⟨x.kind, x.id, 0, 0, 0, ⟨#[]⟩, ⟨#[]⟩, ⟨#[]⟩⟩
set_option maxHeartbeats 2000000 in
set_option maxRecDepth 100000 in
theorem needed_create (id pa bf ky : Int) (tg nm tx : ByteArray) (w : World) :
    Calls Tryz.prog 85 #[.agg #[.int .i64 1, .int .i64 id, .int .i64 pa, .int .i64 bf, .int .i64 ky, .string tg, .string nm, .string tx]] w fun e w' => e = .returned (needP ⟨1, id, pa, bf, ky, tg, nm, tx⟩).val ∧ Below w.heap.size w w' := by
  go_enter Tryz.func85, Tryz.ntmps85
  go_wp2_with fail
  go_region_held3 (fun w' => w'.cell? ⟨w.heap.size, 5, none⟩ = some (.string tg) ∧ w'.cell? ⟨w.heap.size, 4, none⟩ = some (.int .i64 ky) ∧ w'.cell? ⟨w.heap.size, 7, none⟩ = some (.string tx)) (go_keep) (fail)
  go_wp2_with fail
  go_returns
  refine ⟨rfl, ?_⟩
  have hb1 := ((Below.refl w.heap.size w).alloc (Nat.le_refl _) (.cells #[.int .i64 1, .int .i64 id, .int .i64 pa, .int .i64 bf, .int .i64 ky, .string tg, .string nm, .string tx] 29))
  exact ((hb1.alloc (by simp) _).alloc (by simp; omega) _).drew
set_option maxHeartbeats 2000000 in
set_option maxRecDepth 100000 in
theorem needed_insert (id pa bf ky : Int) (tg nm tx : ByteArray) (w : World) :
    Calls Tryz.prog 85 #[.agg #[.int .i64 2, .int .i64 id, .int .i64 pa, .int .i64 bf, .int .i64 ky, .string tg, .string nm, .string tx]] w fun e w' => e = .returned (needP ⟨2, id, pa, bf, ky, tg, nm, tx⟩).val ∧ Below w.heap.size w w' := by
  go_enter Tryz.func85, Tryz.ntmps85
  go_wp2_with fail
  go_region_held3 (fun w' => w'.cell? ⟨w.heap.size, 2, none⟩ = some (.int .i64 pa) ∧ w'.cell? ⟨w.heap.size, 3, none⟩ = some (.int .i64 bf)) (go_keep) (fail)
  go_wp2_with fail
  go_returns
  refine ⟨rfl, ?_⟩
  have hb1 := ((Below.refl w.heap.size w).alloc (Nat.le_refl _) (.cells #[.int .i64 2, .int .i64 id, .int .i64 pa, .int .i64 bf, .int .i64 ky, .string tg, .string nm, .string tx] 29))
  exact ((hb1.alloc (by simp) _).alloc (by simp; omega) _).drew
set_option maxHeartbeats 2000000 in
set_option maxRecDepth 100000 in
theorem needed_set (id pa bf ky : Int) (tg nm tx : ByteArray) (w : World) :
    Calls Tryz.prog 85 #[.agg #[.int .i64 4, .int .i64 id, .int .i64 pa, .int .i64 bf, .int .i64 ky, .string tg, .string nm, .string tx]] w fun e w' => e = .returned (needP ⟨4, id, pa, bf, ky, tg, nm, tx⟩).val ∧ Below w.heap.size w w' := by
  go_enter Tryz.func85, Tryz.ntmps85
  go_wp2_with fail
  go_region_held3 (fun w' => w'.cell? ⟨w.heap.size, 6, none⟩ = some (.string nm) ∧ w'.cell? ⟨w.heap.size, 7, none⟩ = some (.string tx)) (go_keep) (fail)
  go_wp2_with fail
  go_returns
  refine ⟨rfl, ?_⟩
  have hb1 := ((Below.refl w.heap.size w).alloc (Nat.le_refl _) (.cells #[.int .i64 4, .int .i64 id, .int .i64 pa, .int .i64 bf, .int .i64 ky, .string tg, .string nm, .string tx] 29))
  exact ((hb1.alloc (by simp) _).alloc (by simp; omega) _).drew
set_option maxHeartbeats 2000000 in
set_option maxRecDepth 100000 in
theorem needed_unset (id pa bf ky : Int) (tg nm tx : ByteArray) (w : World) :
    Calls Tryz.prog 85 #[.agg #[.int .i64 5, .int .i64 id, .int .i64 pa, .int .i64 bf, .int .i64 ky, .string tg, .string nm, .string tx]] w fun e w' => e = .returned (needP ⟨5, id, pa, bf, ky, tg, nm, tx⟩).val ∧ Below w.heap.size w w' := by
  go_enter Tryz.func85, Tryz.ntmps85
  go_wp2_with fail
  go_returns
  refine ⟨rfl, ?_⟩
  have hb1 := ((Below.refl w.heap.size w).alloc (Nat.le_refl _) (.cells #[.int .i64 5, .int .i64 id, .int .i64 pa, .int .i64 bf, .int .i64 ky, .string tg, .string nm, .string tx] 29))
  exact ((hb1.alloc (by simp) _).alloc (by simp; omega) _)
set_option maxHeartbeats 2000000 in
set_option maxRecDepth 100000 in
theorem needed_write (id pa bf ky : Int) (tg nm tx : ByteArray) (w : World) :
    Calls Tryz.prog 85 #[.agg #[.int .i64 6, .int .i64 id, .int .i64 pa, .int .i64 bf, .int .i64 ky, .string tg, .string nm, .string tx]] w fun e w' => e = .returned (needP ⟨6, id, pa, bf, ky, tg, nm, tx⟩).val ∧ Below w.heap.size w w' := by
  go_enter Tryz.func85, Tryz.ntmps85
  go_wp2_with fail
  go_returns
  refine ⟨rfl, ?_⟩
  have hb1 := ((Below.refl w.heap.size w).alloc (Nat.le_refl _) (.cells #[.int .i64 6, .int .i64 id, .int .i64 pa, .int .i64 bf, .int .i64 ky, .string tg, .string nm, .string tx] 29))
  exact ((hb1.alloc (by simp) _).alloc (by simp; omega) _)
set_option maxHeartbeats 2000000 in
set_option maxRecDepth 100000 in
theorem needed_other (kd id pa bf ky : Int) (tg nm tx : ByteArray) (w : World) (h1 : kd ≠ 1) (h2 : kd ≠ 2) (h4 : kd ≠ 4) (h5 : kd ≠ 5) (h6 : kd ≠ 6) :
    Calls Tryz.prog 85 #[.agg #[.int .i64 kd, .int .i64 id, .int .i64 pa, .int .i64 bf, .int .i64 ky, .string tg, .string nm, .string tx]] w fun e w' => e = .returned (needP ⟨kd, id, pa, bf, ky, tg, nm, tx⟩).val ∧ Below w.heap.size w w' := by
  go_enter Tryz.func85, Tryz.ntmps85
  go_wp2_with fail
  go_returns
  refine ⟨by unfold needP; rw [if_neg h1, if_neg h2, if_neg h4, if_neg h5, if_neg h6]; rfl, ?_⟩
  have hb1 := ((Below.refl w.heap.size w).alloc (Nat.le_refl _) (.cells #[.int .i64 kd, .int .i64 id, .int .i64 pa, .int .i64 bf, .int .i64 ky, .string tg, .string nm, .string tx] 29))
  exact ((hb1.alloc (by simp) _).alloc (by simp; omega) _)
theorem needed_any (x : Pat) (w : World) : Calls Tryz.prog 85 #[x.val] w fun e w' => e = .returned (needP x).val ∧ Below w.heap.size w w' := by
  obtain ⟨kd, id, pa, bf, ky, tg, nm, tx⟩ := x
  by_cases h1 : kd = 1
  · subst h1; exact needed_create id pa bf ky tg nm tx w
  by_cases h2 : kd = 2
  · subst h2; exact needed_insert id pa bf ky tg nm tx w
  by_cases h4 : kd = 4
  · subst h4; exact needed_set id pa bf ky tg nm tx w
  by_cases h5 : kd = 5
  · subst h5; exact needed_unset id pa bf ky tg nm tx w
  by_cases h6 : kd = 6
  · subst h6; exact needed_write id pa bf ky tg nm tx w
  exact needed_other kd id pa bf ky tg nm tx w h1 h2 h4 h5 h6
end Go.Proofs.YtobgcaemnpkbmaaGreat
namespace Go.Proofs.YtobgcaemnpkbmaaGreat
open Go.RowKit
def patB (x y : Pat) : Bool := (x.kind == y.kind) && ((x.id == y.id) && ((x.par == y.par) && ((x.bef == y.bef) && ((x.key == y.key) && ((x.tag.toList == y.tag.toList) && ((x.name.toList == y.name.toList) && (x.text.toList == y.text.toList)))))))
theorem eqf_int {d o : Nat} {f : Field} {fs : List Field} {xs ys : Array Value} {a b : Int} (w : World) (h : (f.type, f.offset, f.name == "_") = (3, o, false)) (hx : xs[o]? = some (.int .i64 a)) (hy : ys[o]? = some (.int .i64 b)) :
    (Op.eqFields (d + 1) xs ys (f :: fs)).run Tryz.prog w = if (a == b) = true then (Op.eqFields (d + 1) xs ys fs).run Tryz.prog w else .ok false w := by
  obtain ⟨ht, h⟩ := Prod.mk.inj h
  obtain ⟨ho, hn⟩ := Prod.mk.inj h
  have hn' : f.name ≠ "_" := by simpa using hn
  have hp : ∀ (zs : Array Value) (z : Int), zs[o]? = some (.int .i64 z) → (part 3 zs o).run Tryz.prog w = .ok (.int .i64 z) w := fun zs z hz => run_part_plain _ (by kernel_rfl) hz
  rw [Op.eqFields, if_pos hn', ht, ho]
  simp only [Sem.run_bind, hp xs a hx, hp ys b hy, Result.andThen_ok, run_equalIn_int w d 3 .i64 .i64 a b Tryz.underlying3]
  by_cases e : (a == b) = true
  · rw [if_pos e, e]; simp
  · rw [if_neg e, Bool.eq_false_iff.2 e]; simp
theorem eqf_str {d o : Nat} {f : Field} {fs : List Field} {xs ys : Array Value} {a b : ByteArray} (w : World) (h : (f.type, f.offset, f.name == "_") = (9, o, false)) (hx : xs[o]? = some (.string a)) (hy : ys[o]? = some (.string b)) :
    (Op.eqFields (d + 1) xs ys (f :: fs)).run Tryz.prog w = if (a.toList == b.toList) = true then (Op.eqFields (d + 1) xs ys fs).run Tryz.prog w else .ok false w := by
  obtain ⟨ht, h⟩ := Prod.mk.inj h
  obtain ⟨ho, hn⟩ := Prod.mk.inj h
  have hn' : f.name ≠ "_" := by simpa using hn
  have hp : ∀ (zs : Array Value) (z : ByteArray), zs[o]? = some (.string z) → (part 9 zs o).run Tryz.prog w = .ok (.string z) w := fun zs z hz => run_part_plain _ (by kernel_rfl) hz
  rw [Op.eqFields, if_pos hn', ht, ho]
  simp only [Sem.run_bind, hp xs a hx, hp ys b hy, Result.andThen_ok, run_equalIn_string w d 9 a b Tryz.underlying9]
  by_cases e : (a.toList == b.toList) = true
  · rw [if_pos e, e]; simp
  · rw [if_neg e, Bool.eq_false_iff.2 e]; simp
theorem run_neq_pat (x y : Pat) (w : World) : (binOp .neq 29 x.val y.val).run Tryz.prog w = .ok (.bool (!patB x y)) w := by
  unfold Pat.val
  rw [run_neq_struct, run_equalIn_agg w _ _ _ _ (by kernel_rfl) (by kernel_rfl)]
  have hf : (Tryz.prog.fieldsOf 29).toList.map (fun f => (f.type, f.offset, f.name == "_")) = [(3, 0, false), (3, 1, false), (3, 2, false), (3, 3, false), (3, 4, false), (9, 5, false), (9, 6, false), (9, 7, false)] := by kernel_rfl
  generalize (Tryz.prog.fieldsOf 29).toList = fs at *
  have hl := congrArg List.length hf
  rw [List.length_map] at hl
  rcases fs with _ | ⟨f0, _ | ⟨f1, _ | ⟨f2, _ | ⟨f3, _ | ⟨f4, _ | ⟨f5, _ | ⟨f6, _ | ⟨f7, _ | ⟨f8, fs⟩⟩⟩⟩⟩⟩⟩⟩⟩
  case cons.cons.cons.cons.cons.cons.cons.cons.nil =>
    simp only [List.map_cons, List.map_nil, List.cons.injEq, and_true] at hf
    obtain ⟨h0, h1, h2, h3, h4, h5, h6, h7⟩ := hf
    rw [eqf_int w h0 rfl rfl, eqf_int w h1 rfl rfl, eqf_int w h2 rfl rfl, eqf_int w h3 rfl rfl, eqf_int w h4 rfl rfl, eqf_str w h5 rfl rfl, eqf_str w h6 rfl rfl, eqf_str w h7 rfl rfl, Op.eqFields]
    unfold patB
    cases (x.kind == y.kind) <;> cases (x.id == y.id) <;> cases (x.par == y.par) <;> cases (x.bef == y.bef) <;> cases (x.key == y.key) <;> cases (x.tag.toList == y.tag.toList) <;> cases (x.name.toList == y.name.toList) <;> cases (x.text.toList == y.text.toList) <;> rfl
  all_goals (simp at hl)
end Go.Proofs.YtobgcaemnpkbmaaGreat
