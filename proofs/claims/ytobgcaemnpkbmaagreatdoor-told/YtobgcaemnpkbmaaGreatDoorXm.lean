/-
  For every list of tasks and every list of steps the law Told returns true and leaves its arguments as they were: commits go on and on, each up to a later update; what a task is told is a commit that was there, never an earlier one than before, and a Flush has all that the task sent ahead; once nothing is left to do all that was sent is committed and every task has done all. The tied card: the listed package-level variables (Go's table of powers of ten and two tables of math/bits, the project's fieldNames) start as the program's text lays them; the seat's copy of the project is pruned.
-/
import Derived.Test.YtobgcaemnpkbmaaGreatDoorC45
import Derived.Test.YtobgcaemnpkbmaaGreatDoorC44
namespace Go.Proofs.YtobgcaemnpkbmaaGreatDoor
set_option maxRecDepth 100000
set_option maxHeartbeats 8000000
open Go.ChangeShapes Go.WideShapes Go.ChangeAt Go.RowKit Go.Deep List
theorem told_any (ao f : Option Addr) (c b i : Nat) (A : List (List Ac)) (o : Nat → Int) (w : World) (p : b ≤ 20000000000000) (l : JI w.heap.size w ao A) (r : QeI w.heap.size w f b o) (t : ∀ (j : Nat) q a, A[j]? = some q → a ∈ q → Qg a.n) (m : Gl w) :
    Calls Tryz.prog 3 #[.slice ao A.length c, .slice f b i] w λe w' => e = .returned (.bool true) ∧ Below w.heap.size w w' := by
  by_cases d : Qaf A = false ∧ ∀ (j : Nat) q, A[j]? = some q → Qbw q = true
  · have g := d.1
    unfold Qaf at g
    rw [Bool.or_eq_false_iff] at g
    have v : A.length ≤ 4 := by have := of_decide_eq_false g.1; omega
    have s : ∀ (j : Nat) (q : List Ac), A[j]? = some q → q.length ≤ 12 := λj q x => by
      have := List.any_eq_false.1 g.2 q (mem_of_getElem? x)
      simpa using this
    exact Qpn w.heap.size ao f A.length c b i A o w rfl v s (by have := m.two; omega) p l r (Qa λD y => QlR w.heap.size ao c A w (Nat.le_refl _) l d.1 d.2 t m D y) (Qa λF u G nb hb E wr H S I J K h => QtL h ao c)
  · obtain ⟨z, k, B, C⟩ := Qmz w.heap.size ao c A w (Nat.le_refl _) l d
    exact QpN ao f A.length c b i w z k B (Qa C)
theorem bytesIntL : Tryz.prog.bytesOf 3 = 8 := by kernel_rfl
theorem told_lifted (os : Os) (K : os.Started) (ad : Type) (enc : TypeId × Value → ad) :
    ReturnsInHanded {} Tryz.checked os 3 .any (λw args => (Rows.toldSpec.pre enc Tryz.prog Tryz.f3 Rows.toldRow.domain false w args ∧ laidMetH Tryz.prog QcT w) ∧ sizedMet enc Tryz.prog Tryz.f3 (OpenSpec.ofChange Rows.toldSpec) false w args)
      (Rows.toldSpec.post enc Tryz.prog Tryz.f3 false true false false) := by
  refine returnsInHanded_of_change_and (C := Tryz.checked) (X := λw _ => laidMetH Tryz.prog QcT w) (λ_ _ _ Y h => h.of_heap Y) Qjd K (by kernel_rfl) Tryz.func3
    (ChangeSpec.witness_shaped (enc := enc) (C := Tryz.checked) (os := os) (X := λw _ => laidMetH Tryz.prog QcT w) false (World.doorLaid Tryz.prog 29 os) #[.slice none 0 0, .slice none 0 0] 8 rfl (World.shaped_of_RefB (by kernel_rfl) (by kernel_rfl)) (by kernel_rfl) (by kernel_rfl) (by kernel_rfl) (QjB os _)) ?_
  intro a base args D a0 ae u E _ y a1 _
  have m : (DataW.weightsEach Tryz.prog (Tryz.f3.params.toList ++ Rows.toldSpec.plain.varTypes Tryz.prog) (D ++ a0)).all (· ≤ reachBytes) = true := y
  clear y
  have k : ∀ (j : Nat) t v, Tryz.f3.params[j]? = some t → args[j]? = some v → Value.okWide Tryz.prog a .any base t v := u
  have n := E
  obtain ⟨p, q, z, a2, rfl, O, _⟩ := E
  have o : DataW.TrodAll enc Tryz.prog a 0 (λ_ => true) true Tryz.f3.params.toList args.toList D p := z
  rw [Tryz.params3] at o k m
  obtain ⟨a3, a4, F, G, f, g, rfl, rfl, rfl, i, H⟩ := trodAll_two o
  obtain ⟨rfl, rfl⟩ := trodVars_none a2
  obtain ⟨r, P, cap, rfl⟩ := okWide_slice Tryz.underlying22 (k 0 22 a3 rfl rfl)
  obtain ⟨s, b, l, rfl⟩ := okWide_slice Tryz.underlying23 (k 1 23 a4 rfl rfl)
  have R := i
  have S := H
  obtain ⟨fuel, a5⟩ := i
  obtain ⟨af, T⟩ := H
  clear z u o
  simp only [append_nil] at n O m
  have B : ∀ x ∈ f ++ g, x.block < a.heap.size := λx d => n.lt x (by simpa using d)
  obtain ⟨ao, c, A, U, L, a6, _⟩ := Qlc (v := .slice r P cap) (x := (F, f)) a5
  obtain ⟨ag, ah, ai, a7, V, a8, W⟩ := Qlm (v := .slice s b l) (x := (G, g)) T
  cases U
  cases V
  have a9 : b ≤ 20000000000000 := by
    by_cases i : 0 < b
    · obtain ⟨aj, ak, I, al⟩ := W i
      simp only at I
      subst I
      have aa := sized_slice m (j := 1) (t := 23) (e := 3) rfl rfl Tryz.underlying23
      have ab : reachBytes = 140737488351232 := rfl
      rw [bytesIntL, ab] at aa
      omega
    · omega
  refine (told_any r s cap b l A a7 a a9 L a8 a6 (Qju a1)).mono λe J ⟨ac, hb⟩ => ?_
  subst ac
  have M : DataW.Trod enc Tryz.prog J 0 (λx => decide (x < a.heap.size)) true 22 (.slice r A.length cap) F f :=
    Below.trod Qf1 (by kernel_rfl) (of_decide_eq_true (by kernel_rfl)) R hb (λx d => B x (mem_append_left _ d))
  have N : DataW.Trod enc Tryz.prog J 0 (λx => decide (x < a.heap.size)) true 23 (.slice s b l) G g :=
    Below.trod Qf1 (by kernel_rfl) (of_decide_eq_true (by kernel_rfl)) S hb (λx d => B x (mem_append_right _ d))
  refine ⟨_, rfl, _, _, _, [], f ++ g, [], n, ?_, ?_, rfl, hb.frame _, λh => by cases h⟩
  · exact trodAll_mk1 (shut_bool Tryz.underlying4 true)
  · exact trodAll_mk2 M N
theorem told_row : Rows.ToldSaid :=
  OpenClaim.holds_of_wide 3 Tryz.f3 rfl rfl rfl rfl rfl rfl rfl ⟨rfl, rfl, rfl, rfl, rfl⟩ rfl rfl rfl rfl rfl (by kernel_rfl) Tryz.func3 (by kernel_rfl)
    (of_decide_eq_true (by kernel_rfl)) (by unfold Func.isWrapper; rw [if_neg (of_decide_eq_false (by kernel_rfl))]; exact ⟨rfl, rfl⟩)
    (λos a b enc _ => told_lifted os a b enc)
theorem told_holds : Rows.ToldCardSaid :=
  Claim7.holds_tied_plain_at .later [] [.data, .data, .data, .data] true (true, "ca9a1750e4f5b9bf506e6f347dc64ceed92744da150df7fcbd8be7d3b93b77c0") false
    told_row (λ_ h => by cases h) (by kernel_rfl) (λ_ h => by cases h) told_row_tie rfl ⟨rfl, rfl⟩ (by kernel_rfl) rfl
    (λf d g c => by
      obtain rfl : f = 3 := Option.some.inj ((show Tryz.prog.funcNamed "batten/battenkeep.Told" = some 3 by kernel_rfl).symm.trans g) |>.symm
      obtain rfl : d = Tryz.f3 := (Option.some.inj (Tryz.func3.symm.trans c)).symm
      exact ⟨by kernel_rfl, λj t a => by
        rw [Tryz.params3] at a
        have i : t ∈ [22, 23] := by simpa using Array.mem_of_getElem? a
        have b : ([22, 23].all λu => !Tryz.prog.wantsStandIn u) = true := by kernel_rfl
        exact (show Tryz.prog.wantsStandIn t = false by simpa using all_eq_true.1 b t i)⟩)
    (by kernel_rfl)
#print axioms told_holds
end Go.Proofs.YtobgcaemnpkbmaaGreatDoor
