/-
  For every list of tasks and every list of steps the law Stays returns true and leaves its arguments as they were: unless some act is an Unmount or a Pull, behind each step every node that the UI told ahead of it is told with the same number, tag, key and depth, and there are never fewer. The tied card: the listed package-level variables (Go's table of powers of ten and two tables of math/bits, the project's fieldNames) start as the program's text lays them; the seat's copy of the project is pruned.
-/
import Derived.Test.YtobgcaemnpkbmaaGreatDoorC47
import Derived.Test.YtobgcaemnpkbmaaGreatDoorC44
namespace Go.Proofs.YtobgcaemnpkbmaaGreatDoor
set_option maxRecDepth 100000
set_option maxHeartbeats 8000000
open Go.ChangeShapes Go.WideShapes Go.ChangeAt Go.RowKit Go.Deep List
theorem stays_any (ao g : Option Addr) (c f t : Nat) (A : List (List Ac)) (E : Nat → Int) (w : World) (I : f ≤ 20000000000000) (x : A.length ≤ maxLen) (v : ∀ (j : Nat) q, A[j]? = some q → q.length ≤ maxLen) (l : JI w.heap.size w ao A) (J : QeI w.heap.size w g f E) (L : ∀ (j : Nat) q a, A[j]? = some q → a ∈ q → Qg a.n) (K : Gl w) :
    Calls Tryz.prog 4 #[.slice ao A.length c, .slice g f t] w λe w' => e = .returned (.bool true) ∧ Below w.heap.size w w' := by
  obtain ⟨k, a1, F, M⟩ := Qd5 (λq : List Ac => (q.all λa => decide (a.kd ≠ 2 ∧ a.kd ≠ 6)) = false) A
  have B : ∀ q : List Ac, ¬ (q.all λa => decide (a.kd ≠ 2 ∧ a.kd ≠ 6)) = false → ∀ a, a ∈ q → a.stays := λq b a o => by
    have b : (q.all λa => decide (a.kd ≠ 2 ∧ a.kd ≠ 6)) = true := by simpa using b
    exact of_decide_eq_true (p := a.kd ≠ 2 ∧ a.kd ≠ 6) (all_eq_true.1 b a o)
  by_cases N : k < A.length
  · obtain ⟨d, C⟩ : ∃ q, A[k]? = some q := ⟨_, getElem?_eq_getElem N⟩
    obtain ⟨m, a2, G, O⟩ := Qd5 (λa : Ac => ¬ (a.kd ≠ 2 ∧ a.kd ≠ 6)) d
    have r : m < d.length := by
      rcases Nat.lt_or_ge m d.length with q | q
      · exact q
      · exfalso
        have : (d.all λa => decide (a.kd ≠ 2 ∧ a.kd ≠ 6)) = true := all_eq_true.2 λa o => by
          obtain ⟨i, P, rfl⟩ := getElem_of_mem o
          exact decide_eq_true (Decidable.not_not.1 (G i _ (by omega) (getElem?_eq_getElem P)))
        rw [M d C] at this
        cases this
    obtain ⟨H, D⟩ : ∃ a, d[m]? = some a := ⟨_, getElem?_eq_getElem r⟩
    exact QpG w.heap.size ao g A.length c f t A w rfl (Nat.le_refl _) x v l k m d C (λj q z b => B q (F j q z b)) H D (O H D) (λj a z o => Decidable.not_not (p := a.kd ≠ 2 ∧ a.kd ≠ 6) |>.1 (G j a z o))
  · have y : ∀ (j : Nat) q, A[j]? = some q → ∀ a, a ∈ q → a.stays := λj q b => B q (F j q (by have := (List.getElem?_eq_some_iff.1 b).1; omega) b)
    by_cases s : Qaf A = false ∧ ∀ (j : Nat) q, A[j]? = some q → Qbw q = true
    · have r := s.1
      unfold Qaf at r
      rw [Bool.or_eq_false_iff] at r
      have R : A.length ≤ 4 := by have := of_decide_eq_false r.1; omega
      exact QrB w.heap.size ao g A.length c f t A E w rfl R (Nat.le_refl _) x v I l J y (Qa λa0 T => (QlR w.heap.size ao c A w (Nat.le_refl _) l s.1 s.2 L K a0 T).mono λ_ _ ⟨U, u, V, S, e, h⟩ => ⟨U, u, V, S, e, h.uib y⟩)
    · obtain ⟨W, k, X, Y⟩ := Qmz w.heap.size ao c A w (Nat.le_refl _) l s
      exact Qtl w.heap.size ao g A.length c f t A w rfl (Nat.le_refl _) x v l y W k X (Qa Y)
theorem bytesIntZ : Tryz.prog.bytesOf 3 = 8 := by kernel_rfl
theorem stays_lifted (os : Os) (K : os.Started) (af : Type) (enc : TypeId × Value → af) :
    ReturnsInHanded {} Tryz.checked os 4 .any (λw args => (Rows.staysSpec.pre enc Tryz.prog Tryz.f4 Rows.staysRow.domain false w args ∧ laidMetH Tryz.prog QcT w) ∧ sizedMet enc Tryz.prog Tryz.f4 (OpenSpec.ofChange Rows.staysSpec) false w args)
      (Rows.staysSpec.post enc Tryz.prog Tryz.f4 false true false false) := by
  refine returnsInHanded_of_change_and (C := Tryz.checked) (X := λw _ => laidMetH Tryz.prog QcT w) (λ_ _ _ a1 h => h.of_heap a1) Qjd K (by kernel_rfl) Tryz.func4
    (ChangeSpec.witness_shaped (enc := enc) (C := Tryz.checked) (os := os) (X := λw _ => laidMetH Tryz.prog QcT w) false (World.doorLaid Tryz.prog 29 os) #[.slice none 0 0, .slice none 0 0] 8 rfl (World.shaped_of_RefB (by kernel_rfl) (by kernel_rfl)) (by kernel_rfl) (by kernel_rfl) (by kernel_rfl) (QjB os _)) ?_
  intro a base args D a2 ag u E _ y a3 _
  have m : (DataW.weightsEach Tryz.prog (Tryz.f4.params.toList ++ Rows.staysSpec.plain.varTypes Tryz.prog) (D ++ a2)).all (· ≤ reachBytes) = true := y
  clear y
  have k : ∀ (j : Nat) t v, Tryz.f4.params[j]? = some t → args[j]? = some v → Value.okWide Tryz.prog a .any base t v := u
  have n := E
  obtain ⟨p, q, z, a4, rfl, R, _⟩ := E
  have o : DataW.TrodAll enc Tryz.prog a 0 (λ_ => true) true Tryz.f4.params.toList args.toList D p := z
  rw [Tryz.params4] at o k m
  obtain ⟨a5, a6, F, G, f, g, rfl, rfl, rfl, i, H⟩ := trodAll_two o
  obtain ⟨rfl, rfl⟩ := trodVars_none a4
  obtain ⟨r, S, cap, rfl⟩ := okWide_slice Tryz.underlying22 (k 0 22 a5 rfl rfl)
  obtain ⟨s, b, l, rfl⟩ := okWide_slice Tryz.underlying23 (k 1 23 a6 rfl rfl)
  have T := i
  have U := H
  obtain ⟨fuel, a7⟩ := i
  obtain ⟨ah, V⟩ := H
  clear z u o
  simp only [append_nil] at n R m
  have B : ∀ x ∈ f ++ g, x.block < a.heap.size := λx d => n.lt x (by simpa using d)
  obtain ⟨ao, c, A, W, M, a8, N, L⟩ := Qlc (v := .slice r S cap) (x := (F, f)) a7
  obtain ⟨ai, aj, ak, a9, Y, aa, a0⟩ := Qlm (v := .slice s b l) (x := (G, g)) V
  cases W
  cases Y
  have ab : b ≤ 20000000000000 := by
    by_cases i : 0 < b
    · obtain ⟨al, ap, I, aq⟩ := a0 i
      simp only at I
      subst I
      have ac := sized_slice m (j := 1) (t := 23) (e := 3) rfl rfl Tryz.underlying23
      have ad : reachBytes = 140737488351232 := rfl
      rw [bytesIntZ, ad] at ac
      omega
    · omega
  refine (stays_any r s cap b l A a9 a ab N L M aa a8 (Qju a3)).mono λe J ⟨ae, hb⟩ => ?_
  subst ae
  have O : DataW.Trod enc Tryz.prog J 0 (λx => decide (x < a.heap.size)) true 22 (.slice r A.length cap) F f :=
    Below.trod Qf1 (by kernel_rfl) (of_decide_eq_true (by kernel_rfl)) T hb (λx d => B x (mem_append_left _ d))
  have P : DataW.Trod enc Tryz.prog J 0 (λx => decide (x < a.heap.size)) true 23 (.slice s b l) G g :=
    Below.trod Qf1 (by kernel_rfl) (of_decide_eq_true (by kernel_rfl)) U hb (λx d => B x (mem_append_right _ d))
  refine ⟨_, rfl, _, _, _, [], f ++ g, [], n, ?_, ?_, rfl, hb.frame _, λh => by cases h⟩
  · exact trodAll_mk1 (shut_bool Tryz.underlying4 true)
  · exact trodAll_mk2 O P
theorem stays_row : Rows.StaysSaid :=
  OpenClaim.holds_of_wide 4 Tryz.f4 rfl rfl rfl rfl rfl rfl rfl ⟨rfl, rfl, rfl, rfl, rfl⟩ rfl rfl rfl rfl rfl (by kernel_rfl) Tryz.func4 (by kernel_rfl)
    (of_decide_eq_true (by kernel_rfl)) (by unfold Func.isWrapper; rw [if_neg (of_decide_eq_false (by kernel_rfl))]; exact ⟨rfl, rfl⟩)
    (λos a b enc _ => stays_lifted os a b enc)
theorem stays_holds : Rows.StaysCardSaid :=
  Claim7.holds_tied_plain_at .later [] [.data, .data, .data, .data] true (true, "ca9a1750e4f5b9bf506e6f347dc64ceed92744da150df7fcbd8be7d3b93b77c0") false
    stays_row (λ_ h => by cases h) (by kernel_rfl) (λ_ h => by cases h) stays_row_tie rfl ⟨rfl, rfl⟩ (by kernel_rfl) rfl
    (λf d g c => by
      obtain rfl : f = 4 := Option.some.inj ((show Tryz.prog.funcNamed "batten/battenkeep.Stays" = some 4 by kernel_rfl).symm.trans g) |>.symm
      obtain rfl : d = Tryz.f4 := (Option.some.inj (Tryz.func4.symm.trans c)).symm
      exact ⟨by kernel_rfl, λj t a => by
        rw [Tryz.params4] at a
        have i : t ∈ [22, 23] := by simpa using Array.mem_of_getElem? a
        have b : ([22, 23].all λu => !Tryz.prog.wantsStandIn u) = true := by kernel_rfl
        exact (show Tryz.prog.wantsStandIn t = false by simpa using all_eq_true.1 b t i)⟩)
    (by kernel_rfl)
#print axioms stays_holds
end Go.Proofs.YtobgcaemnpkbmaaGreatDoor
