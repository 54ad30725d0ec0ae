/- Dok AttrsMk Pats Apl Pid Fl -/
import Derived.Test.YtobgcaemnpkbmaaMd21
import Derived.Test.YtobgcaemnpkbmaaMd02
import Derived.Test.YtobgcaemnpkbmaaMd04
import Derived.Test.YtobgcaemnpkbmaaMd03
import Derived.Test.YtobgcaemnpkbmaaMd16
namespace Go.Proofs.Ytobgcaemnpkbmaa
open Go.RowKit
theorem DocOk.did {R : List RN} {last : Int} {x : Pat} (h : DocOk R last) (hc : canP R last x = true) : DocOk (didP R x) (lastP last x) := by
  classical
  have hI := h.ids
  obtain ⟨rk, hU⟩ := h.up
  by_cases h1 : (x.kind == 1) = true
  · unfold didP lastP
    rw [if_pos h1, if_pos h1]
    unfold canP at hc
    rw [if_pos h1] at hc
    unfold createB at hc
    simp only [Bool.and_eq_true, beq_iff_eq] at hc
    exact h.more (n := newRN x) (show last < x.id by omega) rfl
  · unfold canP at hc
    rw [if_neg h1] at hc
    simp only [Bool.and_eq_true, decide_eq_true_eq] at hc
    obtain ⟨⟨⟨hat, _⟩, _⟩, hc⟩ := hc
    obtain ⟨k, hk, hki, hatk⟩ : ∃ k, ∃ hk : k < R.length, R[k].id = x.id ∧ atP R x.id = (k : Int) := by
      rcases at_two hI x.id with h | ⟨_, h⟩
      · exact h
      · omega
    have hof : ofP R x = R[k] := by unfold ofP; rw [hatk, Int.toNat_natCast, nth_lt hk]
    unfold didP lastP
    rw [if_neg h1, if_neg h1, hof, hatk, Int.toNat_natCast]
    by_cases h2 : (x.kind == 2) = true
    · rw [if_pos h2]
      rw [if_pos h2] at hc
      unfold insB at hc
      simp only [Bool.and_eq_true, Bool.not_eq_true', decide_eq_true_eq, decide_eq_false_iff_not] at hc
      obtain ⟨⟨⟨⟨⟨_, hn1⟩, hpa⟩, _⟩, hbf⟩, hw⟩ := hc
      obtain ⟨t, ht, hti, _⟩ : ∃ k, ∃ hk : k < R.length, R[k].id = x.par ∧ atP R x.par = (k : Int) := by
        rcases at_two hI x.par with h | ⟨_, h⟩
        · exact h
        · omega
      have hpx : ∃ n, n ∈ R ∧ n.id = x.par := ⟨R[t], List.getElem_mem ht, hti⟩
      have hpos := hI.pos _ (List.getElem_mem hk)
      refine h.ins hU hk (by rw [hki]; simpa using hn1) ?_ hpx ((inP_not hU hI (by omega) hpx).2 (by rw [hki]; exact hw))
      by_cases h0 : x.bef = 0
      · exact .inl h0
      · right
        simp [h0] at hbf
        rcases at_two hI x.bef with ⟨b, hb, hbi, _⟩ | ⟨_, h⟩
        · exact ⟨b, hb, by rw [idAt_lt hb, hbi]⟩
        · omega
    rw [if_neg h2]
    rw [if_neg h2] at hc
    by_cases h3 : (x.kind == 3) = true
    · rw [if_pos h3]
      rw [if_pos h3] at hc
      unfold remB at hc
      simp only [Bool.and_eq_true, Bool.not_eq_true'] at hc
      exact h.rem (fitP_all hU hk) hk (by rw [hki]; simpa using hc.2.2)
    rw [if_neg h3]
    by_cases h6 : (x.kind == 6) = true
    · rw [if_pos h6]
      exact h.put hk rfl rfl
    rw [if_neg h6]
    by_cases h4 : (x.kind == 4) = true
    · rw [if_pos h4]
      exact h.put hk rfl rfl
    · rw [if_neg h4]
      exact h.put hk rfl rfl
def runP (R : List RN) (last : Int) (X : Nat → Pat) : Nat → List RN × Int
  | 0 => (R, last)
  | k + 1 => (didP (runP R last X k).1 (X k), lastP (runP R last X k).2 (X k))
def RunsTo (R : List RN) (last : Int) (X : Nat → Pat) (k : Nat) : Prop := ∀ j, j < k → canP (runP R last X j).1 (runP R last X j).2 (X j) = true
theorem RunsTo.zero (R : List RN) (last : Int) (X : Nat → Pat) : RunsTo R last X 0 := fun _ h => absurd h (Nat.not_lt_zero _)
theorem RunsTo.succ {R : List RN} {last : Int} {X : Nat → Pat} {k : Nat} (h : RunsTo R last X k) (hk : canP (runP R last X k).1 (runP R last X k).2 (X k) = true) : RunsTo R last X (k + 1) := fun j hj => by
  rcases Nat.lt_succ_iff_lt_or_eq.1 hj with hj | rfl
  · exact h j hj
  · exact hk
theorem last_one {R : List RN} {last : Int} {x : Pat} (hc : canP R last x = true) : lastP last x = last ∨ lastP last x = last + 1 := by
  unfold lastP
  by_cases h1 : (x.kind == 1) = true
  · rw [if_pos h1]
    unfold canP at hc
    rw [if_pos h1] at hc
    unfold createB at hc
    simp only [Bool.and_eq_true, beq_iff_eq] at hc
    right
    omega
  · rw [if_neg h1]; exact .inl rfl
theorem RunsTo.ok {R : List RN} {last : Int} {X : Nat → Pat} (h : DocOk R last) (hF : Fine R) : ∀ {k : Nat}, RunsTo R last X k → DocOk (runP R last X k).1 (runP R last X k).2 ∧ Fine (runP R last X k).1 ∧ (runP R last X k).2 ≤ last + k := by
  intro k
  induction k with
  | zero => intro _; exact ⟨h, hF, by simp [runP]⟩
  | succ k ih =>
    intro hr
    obtain ⟨h1, h2, h3⟩ := ih fun j hj => hr j (by omega)
    have hc := hr k (by omega)
    refine ⟨h1.did hc, h2.did h1.ids hc, ?_⟩
    show lastP _ _ ≤ _
    rcases last_one hc with e | e <;> rw [e] <;> omega
end Go.Proofs.Ytobgcaemnpkbmaa
namespace Go.Proofs.Ytobgcaemnpkbmaa
open Go.RowKit
theorem addr_add (b o j : Nat) : (⟨b, o, none⟩ : Addr).add j = ⟨b, o + j, none⟩ := by
  unfold Addr.add; split
  · next h => subst h; rfl
  · rfl
end Go.Proofs.Ytobgcaemnpkbmaa
namespace Go.Proofs.Ytobgcaemnpkbmaa
open Go.RowKit
theorem patInfo : (Try.prog.info? 43).map (fun i => (i.zero, i.size, i.bytes)) = some (some (.agg #[.int .i64 0, .int .i64 0, .int .i64 0, .int .i64 0, .int .i64 0, .string ⟨#[]⟩, .string ⟨#[]⟩, .string ⟨#[]⟩]), 8, 88) := by kernel_rfl
def patCell (x : Pat) : Nat → Value
  | 0 => .int .i64 x.kind
  | 1 => .int .i64 x.id
  | 2 => .int .i64 x.par
  | 3 => .int .i64 x.bef
  | 4 => .int .i64 x.key
  | 5 => .string x.tag
  | 6 => .string x.name
  | _ => .string x.text
def patsCell (X : Nat → Pat) (j : Nat) : Value := patCell (X (j / 8)) (j % 8)
theorem patsCell_at (X : Nat → Pat) (i r : Nat) (hr : r < 8) : patsCell X (i * 8 + r) = patCell (X i) r := by
  unfold patsCell
  have e1 : (i * 8 + r) / 8 = i := by omega
  have e2 : (i * 8 + r) % 8 = r := by omega
  rw [e1, e2]
structure PatsAt (w : World) (b o n : Nat) (X : Nat → Pat) : Prop where
  lt : b < w.heap.size
  cell : ∀ j, j < n * 8 → w.cell? ⟨b, o + j, none⟩ = some (patsCell X j)
def PListAt (w : World) (ao : Option Addr) (n : Nat) (X : Nat → Pat) : Prop := 0 < n → ∃ b o, ao = some ⟨b, o, none⟩ ∧ PatsAt w b o n X
theorem PatsAt.below {w w' : World} {b o n : Nat} {X : Nat → Pat} (h : PatsAt w b o n X) (hb : Below w.heap.size w w') : PatsAt w' b o n X :=
  ⟨Nat.lt_of_lt_of_le h.lt hb.size, fun j hj => (hb.cell (p := ⟨b, _, none⟩) h.lt).trans (h.cell j hj)⟩
theorem PListAt.below {w w' : World} {ao : Option Addr} {n : Nat} {X : Nat → Pat} (h : PListAt w ao n X) (hb : Below w.heap.size w w') : PListAt w' ao n X := fun h0 =>
  let ⟨b, o, e, g⟩ := h h0
  ⟨b, o, e, g.below hb⟩
end Go.Proofs.Ytobgcaemnpkbmaa
namespace Go.Proofs.Ytobgcaemnpkbmaa
open Go.RowKit
end Go.Proofs.Ytobgcaemnpkbmaa
namespace Go.Proofs.Ytobgcaemnpkbmaa
open Go.RowKit
def ints (l : List Int) : List Value := l.map fun i => .int .i64 i
theorem ints_length (l : List Int) : (ints l).length = l.length := by unfold ints; simp
theorem ints_app (l : List Int) (i : Int) : ints (l ++ [i]) = ints l ++ [.int .i64 i] := by unfold ints; simp
theorem frozen_heap {w w' : World} {b : Nat} (h : w'.heap[b]? = w.heap[b]?) (o : Nat) : w'.frozen? ⟨b, o, none⟩ = w.frozen? ⟨b, o, none⟩ := by simp only [World.frozen?, h]
set_option maxHeartbeats 2000000 in
set_option maxRecDepth 100000 in
theorem ids_one {w : World} {D NA B : Nat} {v : Value} {xs : List Int} (i : Int) (cD : w.cell? ⟨D, 0, none⟩ = some v) (fD : w.frozen? ⟨D, 0, none⟩ = false) (ci : w.cell? ⟨NA, 0, none⟩ = some (.int .i64 i)) (hD : D < B) (hNA : NA < B) (hB : B ≤ w.heap.size) (hx : xs.length ≤ 800) (hown : w.ownsRow B 3 1 v xs.length (ints xs)) :
    Calls Try.prog 39 #[.pointer (some ⟨NA, 0, none⟩), .pointer (some ⟨D, 0, none⟩)] w fun e w' => e = .returned (.tuple #[]) ∧ ∃ v', w'.cell? ⟨D, 0, none⟩ = some v' ∧ w'.frozen? ⟨D, 0, none⟩ = false ∧ w'.ownsRow B 3 1 v' (xs ++ [i]).length (ints (xs ++ [i])) ∧ w.heap.size ≤ w'.heap.size ∧ (∀ b, b < B → b ≠ D → w'.heap[b]? = w.heap[b]?) ∧ w'.os = w.os ∧ w'.tape = w.tape ∧ w'.output = w.output := by
  obtain ⟨i0, hi, hz0, hz1, hz2⟩ := info_parts intInfo
  obtain ⟨ao, c, rfl⟩ := own_shape hown
  have aD : (Value.slice ao xs.length c).ownBlock = none ∨ (Value.slice ao xs.length c).ownBlock ≠ some D := by
    cases hb : (Value.slice ao xs.length c).ownBlock with
    | none => exact .inl rfl
    | some b => right; intro e; have := (hown.lt b hb).1; cases e; omega
  have aN : (Value.slice ao xs.length c).ownBlock = none ∨ (Value.slice ao xs.length c).ownBlock ≠ some NA := by
    cases hb : (Value.slice ao xs.length c).ownBlock with
    | none => exact .inl rfl
    | some b => right; intro e; have := (hown.lt b hb).1; cases e; omega
  have HOwn := hide hown
  clear hown
  go_enter Try.func39, Try.ntmps39
  have hS0 : (fun w' => w'.frozen? ⟨D, 0, none⟩ = false ∧ w'.cell? ⟨D, 0, none⟩ = some (.slice ao xs.length c) ∧ w'.cell? ⟨NA, 0, none⟩ = some (.int .i64 i)) w.drew := ⟨fD, cD, ci⟩
  refine wp_region_last (S := (fun w' => w'.frozen? ⟨D, 0, none⟩ = false ∧ w'.cell? ⟨D, 0, none⟩ = some (.slice ao xs.length c) ∧ w'.cell? ⟨NA, 0, none⟩ = some (.int .i64 i))) (by kernel_rfl) ?_
  refine wpAnyT_take (i := 0) (v := ?v0) rfl (by kernel_rfl) (by kernel_rfl) (by kernel_rfl) (by kernel_rfl) (fun _ _ _ h => h) (Or.inl ⟨by rfl, ?hy0⟩) hS0 ?r0
  case hy0 => (intro w' hSw; (try dsimp only at hSw); simp only [List.getElem_toArray, List.getElem_cons_zero]; go_simp; try (with_reducible rfl))
  simp only [List.getElem_toArray, List.getElem_cons_zero, Act.put, List.setIfInBounds_toArray, List.set_cons_zero, List.set_cons_succ]
  refine wpAnyT_take (i := 1) (v := ?v1) rfl (by kernel_rfl) (by kernel_rfl) (by kernel_rfl) (by kernel_rfl) (fun _ _ _ h => h) (Or.inl ⟨by rfl, ?hy1⟩) hS0 ?r1
  case hy1 => (intro w' hSw; (try dsimp only at hSw); simp only [List.getElem_toArray, List.getElem_cons_zero, List.getElem_cons_succ]; go_simp; try (with_reducible rfl))
  simp only [List.getElem_toArray, List.getElem_cons_zero, List.getElem_cons_succ, Act.put, List.setIfInBounds_toArray, List.set_cons_zero, List.set_cons_succ]
  refine wpAnyT_take (i := 2) (v := ?v2) rfl (by kernel_rfl) (by kernel_rfl) (by kernel_rfl) (by kernel_rfl) (fun _ _ _ h => h) (Or.inl ⟨by rfl, ?hy2⟩) hS0 ?r2
  case hy2 => (intro w' hSw; (try dsimp only at hSw); simp only [List.getElem_toArray, List.getElem_cons_zero, List.getElem_cons_succ]; go_simp; try (with_reducible rfl))
  simp only [List.getElem_toArray, List.getElem_cons_zero, List.getElem_cons_succ, Act.put, List.setIfInBounds_toArray, List.set_cons_zero, List.set_cons_succ]
  refine wpAnyT_take (i := 3) (v := ?v3) rfl (by kernel_rfl) (by kernel_rfl) (by kernel_rfl) (by kernel_rfl) (fun _ _ _ h => h) (Or.inl ⟨by rfl, ?hy3⟩) hS0 ?r3
  case hy3 => (intro w' hSw; (try dsimp only at hSw); simp only [List.getElem_toArray, List.getElem_cons_zero, List.getElem_cons_succ]; go_simp; try (with_reducible rfl))
  simp only [List.getElem_toArray, List.getElem_cons_zero, List.getElem_cons_succ, Act.put, List.setIfInBounds_toArray, List.set_cons_zero, List.set_cons_succ]
  refine wpAnyT_take (i := 4) (v := ?v4) rfl (by kernel_rfl) (by kernel_rfl) (by kernel_rfl) (by kernel_rfl) (fun _ _ _ h => h) (Or.inl ⟨by rfl, ?hy4⟩) hS0 ?r4
  case hy4 => (intro w' hSw; (try dsimp only at hSw); simp only [List.getElem_toArray, List.getElem_cons_zero, List.getElem_cons_succ]; go_simp; try (with_reducible rfl))
  simp only [List.getElem_toArray, List.getElem_cons_zero, List.getElem_cons_succ, Act.put, List.setIfInBounds_toArray, List.set_cons_zero, List.set_cons_succ]
  refine wpAnyT_one (i := 5) rfl (by kernel_rfl) (by rfl) ?_
  simp only [List.getElem_toArray, List.getElem_cons_zero, List.getElem_cons_succ]
  go_simp
  generalize hw1 : w.alloc (.cells #[.int .i64 i] 3) = w1
  have hb1 : Below w.heap.size w w1 := by rw [← hw1]; exact (Below.refl _ _).alloc (Nat.le_refl _) _
  have s1 : w1.heap.size = w.heap.size + 1 := by rw [← hw1]; simp
  have hnews : ∀ a, some (⟨w.heap.size, 0, none⟩ : Addr) = some a → ∀ j u, [Value.int .i64 i][j]? = some u → w1.cell? (a.add j) = some u := by
    rw [← hw1]
    exact cells_new w #[.int .i64 i] 3
  have p0 := (hb1.cell (p := ⟨D, 0, none⟩) (by simp; omega)).trans cD
  have p1 := (hb1.cell (p := ⟨NA, 0, none⟩) (by simp; omega)).trans ci
  have p2 := (hb1.frozen (p := ⟨D, 0, none⟩) (by simp; omega)).trans fD
  refine ⟨.inr ⟨p2, p0, p1⟩, ?_⟩
  clear hw1 hS0 cD ci fD
  refine wpAnyT_one (i := 6) rfl (by kernel_rfl) (by rfl) ?_
  simp only [List.getElem_toArray, List.getElem_cons_zero, List.getElem_cons_succ]
  refine wp_app w1.drew _ _ 44 (by rfl) B 3 i0 _ 1 8 Try.underlying44 hi hz0 hz1 hz2 rfl (.slice ao xs.length c) xs.length (ints xs) (by rfl) (ownsRow_below HOwn.out hb1.drew) (some ⟨w.heap.size, 0, none⟩) 1 1 [.int .i64 i] (by rfl) (by simp) rfl (fun a ha j u hu => hnews a ha j u hu) (by simp [Value.oneCell']) (by omega) (by omega) (show B ≤ w1.heap.size by omega) ?_
  intro v' w2 hrow2 hg2
  obtain ⟨a2, c2, rfl⟩ := own_shape hrow2
  have hav : ∀ b, Value.ownBlock (.slice ao xs.length c) = some b → B ≤ b := fun b e => (HOwn.out.lt b e).1
  have hq2 : ∀ b, b < w1.heap.size → b < B → w2.heap[b]? = w1.heap[b]? := fun b hb hn => hg2.by.block b hb (fun e => by have := hav b e.symm; omega)
  have r0 := (World.cell?_of_block (w := w1) (a := ⟨D, 0, none⟩) (hq2 D (by omega) hD)).trans p0
  have r1 := (World.cell?_of_block (w := w1) (a := ⟨NA, 0, none⟩) (hq2 NA (by omega) hNA)).trans p1
  have r2 := (World.frozen?_of_block (w := w1) (a := ⟨D, 0, none⟩) (hq2 D (by omega) hD)).trans p2
  refine ⟨.inr ⟨r2, r0, r1⟩, ?_⟩
  have HR2 := hide hrow2
  have HG2 := hide hg2
  have HQ2 := hide hq2
  clear hrow2 hg2 hq2 p0 p1 p2 hnews hav
  try simp only [Act.put, List.setIfInBounds_toArray, List.set_cons_zero, List.set_cons_succ]
  refine wpAnyT_one (i := 7) rfl (by kernel_rfl) (by rfl) ?_
  simp only [List.getElem_toArray, List.getElem_cons_zero, List.getElem_cons_succ]
  go_simp
  refine ⟨by kernel_rfl, ?_⟩
  refine wpAnyT_done (by kernel_rfl) ?_ _
  refine bodyPost_end (results_none rfl _ _ _) rfl ⟨rfl, .slice a2 (xs.length + 1) c2, ?_, ?_, ?_, ?_, ?_, ?_, ?_, ?_⟩
  · exact World.cell?_setCell_same _ _ _ r0
  · rw [World.frozen?_setCell]; exact r2
  · rw [ints_app]
    exact own_heap HR2.out fun b eb => Below.heap_setCell _ _ _ _ (fun x => by
      have x : b = D := x
      have := (HR2.out.lt b eb).1
      omega)
  · rw [size_setCell']
    have := HG2.out.size
    have e1 : w1.drew.heap.size = w1.heap.size := rfl
    omega
  · intro b hb hne
    rw [Below.heap_setCell _ _ _ _ (fun x => hne x), HQ2.out b (by omega) hb, hb1.block b (by omega)]
  · exact HG2.out.by.os.trans hb1.os
  · exact HG2.out.by.tape.trans hb1.tape
  · exact HG2.out.by.output.trans hb1.output
theorem nodup_le {R : List RN} (hI : Ids R) {L : List Int} (hn : L.Nodup) (h : ∀ x, x ∈ L → ∃ n, n ∈ R ∧ n.id = x) : L.length ≤ R.length := by
  have := stay_length hI.nodup hn fun x hx => by
    obtain ⟨n, hn, e⟩ := h x hx
    exact List.mem_map.2 ⟨n, hn, e⟩
  omega
def IdsJ (R : List RN) (w : World) (D B : Nat) (done : List Int) (w' : World) : Prop :=
  (done.Nodup ∧ ∀ x, x ∈ done → ∃ n, n ∈ R ∧ n.id = x) ∧ ∃ v, w'.cell? ⟨D, 0, none⟩ = some v ∧ w'.frozen? ⟨D, 0, none⟩ = false ∧ w'.ownsRow B 3 1 v done.length (ints done) ∧ B ≤ w'.heap.size ∧ (∀ b, b < B → b ≠ D → w'.heap[b]? = w.heap[b]?) ∧ w'.os = w.os ∧ w'.tape = w.tape ∧ w'.output = w.output
theorem ids_all {ρ : Roles} {nb : Int → Nat} {mb : Nat} {rt : Option Nat} {w : World} {q : Nat} {R : List RN} {last : Int} {k : Nat} (h : Dom ρ nb mb rt w q R last) (hI : Ids R) (hU : ∃ rk, Up R rk) (hk : k < R.length) {D : Nat} (cD : w.cell? ⟨D, 0, none⟩ = some (.slice none 0 0)) (fD : w.frozen? ⟨D, 0, none⟩ = false) (hD : D < w.heap.size) (hDρ : ρ D = none) :
    Calls Try.prog 38 #[.pointer (some ⟨nb R[k].id, 0, none⟩), .func (.func 39) #[] #[.pointer (some ⟨D, 0, none⟩)]] w fun e w' => e = .returned (.tuple #[]) ∧ IdsJ R w D w.heap.size (widP R R.length k) w' := by
  obtain ⟨rk, hU⟩ := hU
  have hfit := fitP_all hU hk
  obtain ⟨KO, KC, hread⟩ := h.kids_read
  have hblk : ∀ b j, (∃ i : Int, ρ b = some (i, j)) → b < w.heap.size ∧ b ≠ D := fun b j hb => by
    obtain ⟨i, e⟩ := hb
    refine ⟨h.low b (by rw [e]; rfl), fun e' => ?_⟩
    rw [e', hDρ] at e
    cases e
  rw [← idAt_lt hk]
  refine (each_ids R nb D (IdsJ R w D w.heap.size) KO KC h.few ?_ ?_ hI.pos R.length k [] w hfit (widP_nodup hU hI hfit) (fun _ _ h => by simp at h) ⟨⟨List.nodup_nil, fun _ h => by simp at h⟩, .slice none 0 0, cD, fD, World.ownsRow_nil _ _ _ _, Nat.le_refl _, fun _ _ _ => rfl, rfl, rfl, rfl⟩ : Calls _ _ _ _ _).mono ?_
  · rintro done w1 ⟨_, v, _, _, _, _, hb, _⟩ n hn
    obtain ⟨h1, h2⟩ := hread n hn
    obtain ⟨av, kv, hP⟩ := h.node n hn
    obtain ⟨l1, l2⟩ := hblk _ 0 ⟨_, hP.role⟩
    refine ⟨(World.cell?_of_block (hb _ l1 l2)).trans h1, fun i x hx => ?_⟩
    obtain ⟨g, e, hg, hc⟩ := h2 i x hx
    obtain ⟨l1, l2⟩ := hblk _ 2 ⟨_, hg⟩
    exact ⟨g, e, (World.cell?_of_block (hb g l1 l2)).trans hc⟩
  · rintro done w1 n hn hno ⟨⟨hnd, hin⟩, v, c1, f1, o1, s1, hb, ho1, ho2, ho3⟩
    obtain ⟨av, kv, hP⟩ := h.node n hn
    obtain ⟨l1, l2⟩ := hblk _ 0 ⟨_, hP.role⟩
    have hfew := h.few
    have hlen := nodup_le hI hnd hin
    refine (ids_one n.id c1 f1 ((World.cell?_of_block (hb _ l1 l2)).trans (cell_of_blk hP.blk 0 _ rfl)) hD l1 s1 (by omega) o1).mono ?_
    rintro e w2 ⟨rfl, v2, c2, f2, o2, s2, hb2, p1, p2, p3⟩
    refine ⟨rfl, ⟨?_, fun x hx => ?_⟩, v2, c2, f2, o2, by omega, fun b hb' hne => (hb2 b hb' hne).trans (hb b hb' hne), p1.trans ho1, p2.trans ho2, p3.trans ho3⟩
    · rw [List.nodup_append]
      exact ⟨hnd, by simp, fun a ha b hb e => by rw [List.mem_singleton.1 hb] at e; exact hno (e ▸ ha)⟩
    · rcases List.mem_append.1 hx with hx | hx
      · exact hin x hx
      · exact ⟨n, hn, (List.mem_singleton.1 hx).symm⟩
  · rintro e w' ⟨rfl, hj⟩
    rw [List.nil_append] at hj
    exact ⟨rfl, hj⟩
set_option maxHeartbeats 2000000 in
set_option maxRecDepth 100000 in
theorem pids_any (ρ : Roles) (nb : Int → Nat) (mb : Nat) (w : World) (q : Nat) (R : List RN) (last : Int) (h : Dom ρ nb mb (some (nb 1)) w q R last) (hok : DocOk R last) (r : Nat) (hr : r < R.length) (hr1 : R[r].id = 1) :
    Calls Try.prog 29 #[.pointer (some ⟨q, 0, none⟩)] w fun e w' => ∃ v, e = .returned v ∧ w'.ownsRow w.heap.size 3 1 v (widP R R.length r).length (ints (widP R R.length r)) ∧ Below w.heap.size w w' := by
  have d0 : w.cell? ⟨q, 0, none⟩ = some (.pointer (some ⟨nb 1, 0, none⟩)) := cell_of_blk h.blk 0 _ rfl
  have ltq := lt_of_blk h.blk
  have HAll : Hid (∀ w1, Below w.heap.size w w1 → w1.cell? ⟨w.heap.size, 0, none⟩ = some (.slice none 0 0) → w1.frozen? ⟨w.heap.size, 0, none⟩ = false → w.heap.size < w1.heap.size → Calls Try.prog 38 #[.pointer (some ⟨nb 1, 0, none⟩), .func (.func 39) #[] #[.pointer (some ⟨w.heap.size, 0, none⟩)]] w1 fun e w' => e = .returned (.tuple #[]) ∧ IdsJ R w1 w.heap.size w1.heap.size (widP R R.length r) w') := hide fun w1 hb c1 f1 s1 => by
    rw [← hr1]
    refine ids_all (h.below hb) hok.ids hok.up hr c1 f1 s1 ?_
    cases hρ : ρ w.heap.size with
    | none => rfl
    | some x => have := h.low w.heap.size (by rw [hρ]; rfl); omega
  clear h hok hr1
  go_enter Try.func29, Try.ntmps29
  go_wp2_with fail
  generalize hw0 : w.alloc (.cells #[.slice none 0 0] 44) = w0
  have hb0 : Below w.heap.size w w0 := by rw [← hw0]; exact (Below.refl _ _).alloc (Nat.le_refl _) _
  have lt0 : w.heap.size < w0.heap.size := by rw [← hw0]; simp
  have c0 : w0.cell? ⟨w.heap.size, 0, none⟩ = some (.slice none 0 0) := by rw [← hw0]; simp [go_sem]
  have f0 : w0.frozen? ⟨w.heap.size, 0, none⟩ = false := by rw [← hw0]; simp [go_sem]
  clear hw0
  refine (HAll.out w0 hb0 c0 f0 lt0).mono ?_
  rintro e w2 ⟨rfl, _, v, c2, f2, o2, s2, hb2, p1, p2, p3⟩
  obtain ⟨ao, c, rfl⟩ := own_shape o2
  have HO := hide o2
  have HB2 := hide hb2
  clear o2 hb2 f2
  go_wp2_with fail
  go_ret
  refine ⟨_, rfl, own_ge HO.out hb0.size, p1.trans hb0.os, p2.trans hb0.tape, p3.trans hb0.output, by omega, fun b hb => ?_⟩
  exact (HB2.out b (by omega) (by omega)).trans (hb0.block b hb)
end Go.Proofs.Ytobgcaemnpkbmaa
namespace Go.Proofs.Ytobgcaemnpkbmaa
open Go.RowKit
set_option maxHeartbeats 400000 in
theorem attrName_any (A : Nat) (nm vl x : ByteArray) (w : World) (hA : w.cell? ⟨A, 0, none⟩ = some (.string x)) (hl : A < w.heap.size) :
    Calls Try.prog 75 #[.agg #[.string nm, .string vl], .pointer (some ⟨A, 0, none⟩)] w fun e w' => e = .returned (.bool (nm.toList == x.toList)) ∧ Below w.heap.size w w' := by
  go_enter Try.func75, Try.ntmps75
  go_wp2_with fail
  go_ret
  exact ⟨rfl, (Below.refl _ _).alloc (Nat.le_refl _) _⟩
def nameIn (nm : Nat → ByteArray) (x : ByteArray) (k : Nat) : Bool := (List.range k).any fun j => (nm j).toList == x.toList
theorem nameIn_succ (nm : Nat → ByteArray) (x : ByteArray) (k : Nat) : nameIn nm x (k + 1) = (nameIn nm x k || ((nm k).toList == x.toList)) := by
  unfold nameIn; rw [List.range_succ, List.any_append]; simp
theorem nameIn_yes {nm : Nat → ByteArray} {x : ByteArray} {j n : Nat} (hj : j < n) (h : ((nm j).toList == x.toList) = true) : nameIn nm x n = true := by
  unfold nameIn; exact List.any_eq_true.2 ⟨j, List.mem_range.2 hj, h⟩
def attrIn (nm vl : Nat → ByteArray) (x y : ByteArray) (k : Nat) : Bool := (List.range k).any fun j => (x.toList == (nm j).toList) && (y.toList == (vl j).toList)
theorem attrIn_succ (nm vl : Nat → ByteArray) (x y : ByteArray) (k : Nat) : attrIn nm vl x y (k + 1) = (attrIn nm vl x y k || ((x.toList == (nm k).toList) && (y.toList == (vl k).toList))) := by
  unfold attrIn; rw [List.range_succ, List.any_append]; simp
theorem attrIn_yes {nm vl : Nat → ByteArray} {x y : ByteArray} {j n : Nat} (hj : j < n) (h : ((x.toList == (nm j).toList) && (y.toList == (vl j).toList)) = true) : attrIn nm vl x y n = true := by
  unfold attrIn; exact List.any_eq_true.2 ⟨j, List.mem_range.2 hj, h⟩
set_option maxHeartbeats 1000000 in
theorem indexFuncA_any (ao : Option Addr) (n c : Nat) (nm vl : Nat → ByteArray) (A : Nat) (x : ByteArray) (w : World) (hn : n ≤ 1000000) (h : AttrsAt w ao n nm vl) (hA : w.cell? ⟨A, 0, none⟩ = some (.string x)) (hl : A < w.heap.size) :
    Calls Try.prog 92 #[.slice ao n c, .func (.func 75) #[] #[.pointer (some ⟨A, 0, none⟩)]] w fun e w' => (∃ r : Int, e = .returned (.int .i64 r) ∧ decide (0 ≤ r) = nameIn nm x n) ∧ Below w.heap.size w w' := by
  have H := hide h
  clear h
  go_enter Try.func92, Try.ntmps92
  go_wp2_with fail
  go_loopw [5, 8] (fun _ i wr => ∃ j : Nat, j ≤ n ∧ i = .int .i64 j ∧ Hid (nameIn nm x j = false) ∧ Hid (Below w.heap.size w wr)) (fun _ i _ => n - (intOf i).toNat)
  case atStart => exact ⟨0, Nat.zero_le _, rfl, hide rfl, hide (Below.refl _ _)⟩
  case round =>
    obtain ⟨j, hj, rfl, hno, hbr⟩ := hrel
    by_cases hlt : j < n
    · obtain ⟨b, o, rfl, hbl, d0, d1, _, _⟩ := H.out j hlt
      have c0 := (hbr.out.cell (p := ⟨b, o + j * 2, none⟩) hbl).trans d0
      have c1 := (hbr.out.cell (p := ⟨b, o + j * 2 + 1, none⟩) hbl).trans d1
      have hji : (j : Int) < (n : Int) := by omega
      have HC := hide (attrName_any A (nm j) (vl j) x wr ((hbr.out.cell (p := ⟨A, 0, none⟩) hl).trans hA) (Nat.lt_of_lt_of_le hl hbr.out.size))
      cases e : ((nm j).toList == x.toList) with
      | true =>
        rw [e] at HC
        have HY := hide (nameIn_yes hlt e)
        clear d0 d1
        go_wp2_with (first | (go_at_call 75; refine (unhide HC).mono ?_; rintro e w1 ⟨rfl, hb1⟩))
        go_ret
        refine ⟨⟨j, rfl, ?_⟩, hbr.out.trans (hb1.mono hbr.out.size)⟩
        rw [HY.out]
        simp
      | false =>
        rw [e] at HC
        have HN : Hid (nameIn nm x (j + 1) = false) := hide (by rw [nameIn_succ, hno.out, e]; rfl)
        clear d0 d1
        go_wp2_with (first | (go_at_call 75; refine (unhide HC).mono ?_; rintro e w1 ⟨rfl, hb1⟩))
        have HB := hide (hbr.out.trans (hb1.mono hbr.out.size))
        clear hb1
        go_roundw
        case rel => exact ⟨j + 1, by omega, by go_num, HN, HB⟩
        case measure => simp [intOf]; omega
    · have hjn : j = n := by omega
      subst hjn
      have hji : ¬ (j : Int) < (j : Int) := by omega
      go_wp2_with fail
      go_ret
      exact ⟨⟨-1, rfl, by rw [hno.out]; rfl⟩, hbr.out⟩
set_option maxHeartbeats 400000 in
theorem containsFuncA_any (ao : Option Addr) (n c : Nat) (nm vl : Nat → ByteArray) (A : Nat) (x : ByteArray) (w : World) (hn : n ≤ 1000000) (h : AttrsAt w ao n nm vl) (hA : w.cell? ⟨A, 0, none⟩ = some (.string x)) (hl : A < w.heap.size) :
    Calls Try.prog 74 #[.slice ao n c, .func (.func 75) #[] #[.pointer (some ⟨A, 0, none⟩)]] w fun e w' => e = .returned (.bool (nameIn nm x n)) ∧ Below w.heap.size w w' := by
  have HC := hide (indexFuncA_any ao n c nm vl A x w hn h hA hl)
  clear h hA
  go_enter Try.func74, Try.ntmps74
  go_wp2_with (first | (go_at_call 92; refine (unhide HC).mono ?_; rintro e w1 ⟨⟨r, rfl, hr⟩, hb1⟩; have HR := hide hr; clear hr))
  go_ret
  refine ⟨?_, hb1⟩
  rw [← HR.out]
  simp
theorem run_eql_attr (n1 v1 n2 v2 : ByteArray) (w : World) : (binOp .eql 58 (.agg #[.string n1, .string v1]) (.agg #[.string n2, .string v2])).run Try.prog w = .ok (.bool ((n1.toList == n2.toList) && (v1.toList == v2.toList))) w := by
  rw [run_eql_struct, run_equalIn_agg w _ _ _ _ (by kernel_rfl) (by kernel_rfl)]
  have hf : (Try.prog.fieldsOf 58).toList.map (fun f => (f.type, f.offset, f.name == "_")) = [(9, 0, false), (9, 1, false)] := by kernel_rfl
  generalize (Try.prog.fieldsOf 58).toList = fs at *
  have hl := congrArg List.length hf
  rw [List.length_map] at hl
  rcases fs with _ | ⟨f0, _ | ⟨f1, _ | ⟨f2, fs⟩⟩⟩
  case cons.cons.nil =>
    simp only [List.map_cons, List.map_nil, List.cons.injEq, and_true] at hf
    obtain ⟨h0, h1⟩ := hf
    rw [eqf_str w h0 rfl rfl, eqf_str w h1 rfl rfl, Op.eqFields]
    cases (n1.toList == n2.toList) <;> cases (v1.toList == v2.toList) <;> rfl
  all_goals (simp at hl)
set_option maxHeartbeats 1000000 in
theorem indexA_any (ao : Option Addr) (n c : Nat) (nm vl : Nat → ByteArray) (x y : ByteArray) (w : World) (hn : n ≤ 1000000) (h : AttrsAt w ao n nm vl) :
    Calls Try.prog 93 #[.slice ao n c, .agg #[.string x, .string y]] w fun e w' => (∃ r : Int, e = .returned (.int .i64 r) ∧ decide (0 ≤ r) = attrIn nm vl x y n) ∧ Below w.heap.size w w' := by
  have H := hide h
  clear h
  have hq : ∀ n1 v1 n2 v2 (w : World), (binOp .eql 58 (.agg #[.string n1, .string v1]) (.agg #[.string n2, .string v2])).run Try.prog w = .ok (.bool ((n1.toList == n2.toList) && (v1.toList == v2.toList))) w := run_eql_attr
  go_enter Try.func93, Try.ntmps93
  go_wp2_with fail
  have a0 : (w.alloc (.cells #[.string x, .string y] 58)).cell? ⟨w.heap.size, 0, none⟩ = some (.string x) := by simp [go_sem]
  have a1 : (w.alloc (.cells #[.string x, .string y] 58)).cell? ⟨w.heap.size, 1, none⟩ = some (.string y) := by simp [go_sem]
  have hb0 : Below w.heap.size w (w.alloc (.cells #[.string x, .string y] 58)) := (Below.refl _ _).alloc (Nat.le_refl _) _
  have hs0 : w.heap.size < (w.alloc (.cells #[.string x, .string y] 58)).heap.size := by simp
  generalize w.alloc (.cells #[.string x, .string y] 58) = w0 at *
  have HB0 := hide hb0
  clear hb0
  go_loopw [5, 8] (fun _ i wr => ∃ j : Nat, j ≤ n ∧ i = .int .i64 j ∧ Hid (attrIn nm vl x y j = false) ∧ Hid (Below w0.heap.size w0 wr)) (fun _ i _ => n - (intOf i).toNat)
  case atStart => exact ⟨0, Nat.zero_le _, rfl, hide rfl, hide (Below.refl _ _)⟩
  case round =>
    obtain ⟨j, hj, rfl, hno, hbr⟩ := hrel
    have e0 := (hbr.out.cell (p := ⟨w.heap.size, 0, none⟩) hs0).trans a0
    have e1 := (hbr.out.cell (p := ⟨w.heap.size, 1, none⟩) hs0).trans a1
    by_cases hlt : j < n
    · obtain ⟨b, o, rfl, hbl, d0, d1, _, _⟩ := H.out j hlt
      have hbl0 : b < w0.heap.size := Nat.lt_of_lt_of_le hbl HB0.out.size
      have c0 := (hbr.out.cell (p := ⟨b, o + j * 2, none⟩) hbl0).trans ((HB0.out.cell (p := ⟨b, o + j * 2, none⟩) hbl).trans d0)
      have c1 := (hbr.out.cell (p := ⟨b, o + j * 2 + 1, none⟩) hbl0).trans ((HB0.out.cell (p := ⟨b, o + j * 2 + 1, none⟩) hbl).trans d1)
      have hji : (j : Int) < (n : Int) := by omega
      have hqj := fun w => hq x y (nm j) (vl j) w
      cases e : ((x.toList == (nm j).toList) && (y.toList == (vl j).toList)) with
      | true =>
        have HY := hide (attrIn_yes hlt e)
        simp only [e] at hqj
        clear d0 d1 hq
        go_wp2_with fail
        go_big_quiet (fail)
        go_wp2_with fail
        go_ret
        refine ⟨⟨j, rfl, ?_⟩, HB0.out.trans (drewN_of (hbr.out.mono HB0.out.size) _)⟩
        rw [HY.out]
        simp
      | false =>
        have HN : Hid (attrIn nm vl x y (j + 1) = false) := hide (by rw [attrIn_succ, hno.out, e]; rfl)
        simp only [e] at hqj
        clear d0 d1 hq
        go_wp2_with fail
        go_big_quiet (fail)
        go_wp2_with fail
        go_roundw
        case rel => exact ⟨j + 1, by omega, by go_num, HN, hide (drewN_of hbr.out _)⟩
        case measure => simp [intOf]; omega
    · have hjn : j = n := by omega
      subst hjn
      have hji : ¬ (j : Int) < (j : Int) := by omega
      go_wp2_with fail
      go_ret
      exact ⟨⟨-1, rfl, by rw [hno.out]; rfl⟩, HB0.out.trans (hbr.out.mono HB0.out.size)⟩
set_option maxHeartbeats 400000 in
theorem containsA_any (ao : Option Addr) (n c : Nat) (nm vl : Nat → ByteArray) (x y : ByteArray) (w : World) (hn : n ≤ 1000000) (h : AttrsAt w ao n nm vl) :
    Calls Try.prog 76 #[.slice ao n c, .agg #[.string x, .string y]] w fun e w' => e = .returned (.bool (attrIn nm vl x y n)) ∧ Below w.heap.size w w' := by
  have HC : Hid (∀ w1, Below w.heap.size w w1 → Calls Try.prog 93 #[.slice ao n c, .agg #[.string x, .string y]] w1 fun e w' => (∃ r : Int, e = .returned (.int .i64 r) ∧ decide (0 ≤ r) = attrIn nm vl x y n) ∧ Below w1.heap.size w1 w') := hide fun w1 hb => indexA_any ao n c nm vl x y w1 hn (h.below hb)
  clear h
  go_enter Try.func76, Try.ntmps76
  go_wp2_with (first | (go_at_call 93; refine (unhide HC _ ((Below.refl _ _).alloc (Nat.le_refl _) _)).mono ?_; rintro e w1 ⟨⟨r, rfl, hr⟩, hb1⟩; have HR := hide hr; clear hr))
  go_ret
  refine ⟨?_, ((Below.refl w.heap.size w).alloc (Nat.le_refl _) _).trans (hb1.mono (by simp))⟩
  rw [← HR.out]
  simp
end Go.Proofs.Ytobgcaemnpkbmaa
