/-
  What 'mayBe' answers of a node of a list.
-/
import Derived.Test.YtobgcaemnpkbmaaPlace
namespace Go.Proofs.Ytobgcaemnpkbmaa
open Go.RowKit

/-- A world that grew out of w, nothing old having turned. -/
structure Ext (w : World) where
  to : World
  below : Below w.heap.size w to

/-- A region that draws its order, whose operations read old memory and whose calls make new memory alone: one walk, in the text's order. -/
theorem wp_region_ext {P : Program} {id : Nat} {Q : Exit → Act → World → Prop} {a : Act} {w : World} {l : List Oper} (hm : P.follows .mixedOrders = true) (hB : Region.lexB .any l.toArray = true)
    (h : wpQuiet P l.toArray (fun w' => ∃ g : Ext w, w' = g.to) (fun a' => ∀ w', (∃ g : Ext w, w' = g.to) → Q .normal a' w') l a) : (Code.region id l.toArray true).wp P Q a w :=
  wp_region_quiet (C := fun w' => ∃ g : Ext w, w' = g.to) hm hB ⟨⟨w.drew, (Below.refl _ _).drew⟩, rfl⟩ (by simpa using h)

theorem ext_of {P : Program} {f : FuncId} {args : Array Value} {w : World} {g : Ext w} {v : Value}
    (h : Calls P f args g.to fun e w' => e = .returned v ∧ Below g.to.heap.size g.to w') : Calls P f args g.to fun e w'' => e = .returned v ∧ ∃ g' : Ext w, w'' = g'.to :=
  h.mono fun _ w' ⟨he, hb⟩ => ⟨he, ⟨⟨w', g.below.trans (hb.mono g.below.size)⟩, rfl⟩⟩
theorem ext_of_same {P : Program} {f : FuncId} {args : Array Value} {w : World} {g : Ext w} {v : Value}
    (h : Calls P f args g.to fun e w' => e = .returned v ∧ w' = g.to) : Calls P f args g.to fun e w'' => e = .returned v ∧ ∃ g' : Ext w, w'' = g'.to :=
  h.mono fun _ _ ⟨he, hb⟩ => ⟨he, ⟨g, hb⟩⟩

theorem isElement_is (n : Nod) (r : Bool) (hr : elB n = r) (w : World) (h : n.Ok w) :
    Calls Try.prog 42 #[.agg #[.int .i64 n.d, .string n.t, .int .i64 n.k, .slice n.ao n.an n.ac, .string n.x]] w fun e w' => e = .returned (.bool r) ∧ Below w.heap.size w w' := by
  subst hr; exact isElement_any n w h
theorem isTextNode_is (n : Nod) (r : Bool) (hr : txB n = r) (w : World) (h : n.Ok w) :
    Calls Try.prog 44 #[.agg #[.int .i64 n.d, .string n.t, .int .i64 n.k, .slice n.ao n.an n.ac, .string n.x]] w fun e w' => e = .returned (.bool r) ∧ Below w.heap.size w w' := by
  subst hr; exact isTextNode_any n w h
theorem depthFits_is (a d : Int) (r : Bool) (hr : depthB a d = r) (w : World) (h0 : 0 ≤ a) (h1 : a ≤ 11) :
    Calls Try.prog 43 #[.int .i64 a, .int .i64 d] w fun e w' => e = .returned (.bool r) ∧ w' = w := by
  subst hr; exact depthFits_any a d w h0 h1

/-- May node i be at its place, as the program says it? -/
def mayB (L : Nat → Nod) (i : Nat) : Bool :=
  if i = 0 then decide ((L 0).d = 0) && elB (L 0) else depthB (L (i - 1)).d (L i).d && (elB (L i) || txB (L i)) && goBack L i i

set_option maxHeartbeats 400000 in
theorem mayBe_zero (b o n c : Nat) (L : Nat → Nod) (w : World) (_hn : n ≤ maxLen) (hi : 0 < n) (h : NodesAt w b o n L) :
    Calls Try.prog 33 #[.slice (some ⟨b, o, none⟩) n c, .int .i64 0] w fun e w' => e = .returned (.bool (mayB L 0)) ∧ Below w.heap.size w w' := by
  obtain ⟨c0, c1, c2, c3, c4, hok⟩ := h.node 0 hi
  simp only [Nat.zero_mul, Nat.add_zero] at c0 c1 c2 c3 c4
  have HO := hide hok
  clear h hok
  by_cases hd : (L 0).d = 0
  · have HX : Hid (mayB L 0 = elB (L 0)) := hide (by unfold mayB; rw [if_pos rfl, decide_eq_true hd]; rfl)
    have db : ((L 0).d == 0) = true := by simp [hd]
    clear hd
    go_enter Try.func33, Try.ntmps33
    go_wp2_with (go_at_call 42; refine (isElement_is (L 0) _ rfl _ (unhide HO)).mono ?_; rintro e w' ⟨rfl, hb2⟩)
    go_ret
    exact ⟨ret_bool HX.out.symm, hb2⟩
  · have HX : Hid (mayB L 0 = false) := hide (by unfold mayB; rw [if_pos rfl, decide_eq_false hd]; rfl)
    have db : ((L 0).d == 0) = false := by simp [hd]
    clear hd
    go_enter Try.func33, Try.ntmps33
    go_wp2
    go_ret
    exact ⟨ret_bool HX.out.symm, Below.refl _ _⟩

set_option maxHeartbeats 400000 in
theorem mayBe_next (b o n c : Nat) (L : Nat → Nod) (i : Nat) (w : World) (hn : n ≤ maxLen) (hi0 : 0 < i) (hi : i < n) (h : NodesAt w b o n L) (hd0 : 0 ≤ (L (i - 1)).d) (hd1 : (L (i - 1)).d ≤ 11) :
    Calls Try.prog 33 #[.slice (some ⟨b, o, none⟩) n c, .int .i64 i] w fun e w' => e = .returned (.bool (mayB L i)) ∧ Below w.heap.size w w' := by
  have HN := hide hn
  unfold maxLen at hn
  have H : Hid (∀ g : Ext w, NodesAt g.to b o n L) := hide (fun g => h.below g.below)
  have c0 : ∀ g : Ext w, g.to.cell? ⟨b, o + i * 5, none⟩ = some (.int .i64 (L i).d) := fun g => ((unhide H g).node i hi).c0
  have c1 : ∀ g : Ext w, g.to.cell? ⟨b, o + i * 5 + 1, none⟩ = some (.string (L i).t) := fun g => ((unhide H g).node i hi).c1
  have c2 : ∀ g : Ext w, g.to.cell? ⟨b, o + i * 5 + 2, none⟩ = some (.int .i64 (L i).k) := fun g => ((unhide H g).node i hi).c2
  have c3 : ∀ g : Ext w, g.to.cell? ⟨b, o + i * 5 + 3, none⟩ = some (.slice (L i).ao (L i).an (L i).ac) := fun g => ((unhide H g).node i hi).c3
  have c4 : ∀ g : Ext w, g.to.cell? ⟨b, o + i * 5 + 4, none⟩ = some (.string (L i).x) := fun g => ((unhide H g).node i hi).c4
  have a0 : ∀ g : Ext w, g.to.cell? ⟨b, o + (i - 1) * 5, none⟩ = some (.int .i64 (L (i - 1)).d) := fun g => ((unhide H g).node (i - 1) (by omega)).c0
  clear h
  have ib : ((i : Int) == 0) = false := by simp; omega
  have hne : Nonempty (Ext w) := ⟨⟨w, Below.refl _ _⟩⟩
  cases hD : depthB (L (i - 1)).d (L i).d with
  | false =>
    have HX : Hid (mayB L i = false) := hide (by unfold mayB; rw [if_neg (by omega), hD]; rfl)
    have HD := hide hD
    clear hD
    go_enter Try.func33, Try.ntmps33
    go_wp2
    refine wp_region_ext (by kernel_rfl) (by kernel_rfl) ?_
    repeat (go_big_quiet_step ((go_at_call 43; exact ext_of_same (depthFits_is _ _ _ (unhide HD) _ hd0 hd1))))
    refine wpQuiet_nil ?_
    intro _ hw'
    obtain ⟨g, hw''⟩ := hw'
    subst hw''
    go_wp2
    go_ret
    exact ⟨ret_bool HX.out.symm, g.below⟩
  | true =>
    cases hE : elB (L i) with
    | true =>
      have HX : Hid (mayB L i = goBack L i i) := hide (by unfold mayB; rw [if_neg (by omega), hD, hE]; simp)
      have HD := hide hD
      have HE := hide hE
      clear hD hE
      go_enter Try.func33, Try.ntmps33
      go_wp2
      refine wp_region_ext (by kernel_rfl) (by kernel_rfl) ?_
      repeat (go_big_quiet_step (first | (go_at_call 43; exact ext_of_same (depthFits_is _ _ _ (unhide HD) _ hd0 hd1)) | (go_at_call 42; exact ext_of (isElement_is (L i) _ (unhide HE) _ ((unhide H _).node i hi).ok)) | (go_at_call 45; exact ext_of (placeFits_any b o n c L i _ (unhide HN) hi (unhide H _)))))
      refine wpQuiet_nil ?_
      intro _ hw'
      obtain ⟨g, hw''⟩ := hw'
      subst hw''
      go_wp2
      go_ret
      exact ⟨ret_bool HX.out.symm, g.below⟩
    | false =>
      cases hT : txB (L i) with
      | true =>
        have HX : Hid (mayB L i = goBack L i i) := hide (by unfold mayB; rw [if_neg (by omega), hD, hE, hT]; simp)
        have HD := hide hD
        have HE := hide hE
        have HT := hide hT
        clear hD hE hT
        go_enter Try.func33, Try.ntmps33
        go_wp2
        refine wp_region_ext (by kernel_rfl) (by kernel_rfl) ?_
        repeat (go_big_quiet_step (first | (go_at_call 43; exact ext_of_same (depthFits_is _ _ _ (unhide HD) _ hd0 hd1)) | (go_at_call 42; exact ext_of (isElement_is (L i) _ (unhide HE) _ ((unhide H _).node i hi).ok)) | (go_at_call 44; exact ext_of (isTextNode_is (L i) _ (unhide HT) _ ((unhide H _).node i hi).ok)) | (go_at_call 45; exact ext_of (placeFits_any b o n c L i _ (unhide HN) hi (unhide H _)))))
        refine wpQuiet_nil ?_
        intro _ hw'
        obtain ⟨g, hw''⟩ := hw'
        subst hw''
        go_wp2
        go_ret
        exact ⟨ret_bool HX.out.symm, g.below⟩
      | false =>
        have HX : Hid (mayB L i = false) := hide (by unfold mayB; rw [if_neg (by omega), hE, hT]; simp)
        have HD := hide hD
        have HE := hide hE
        have HT := hide hT
        clear hD hE hT
        go_enter Try.func33, Try.ntmps33
        go_wp2
        refine wp_region_ext (by kernel_rfl) (by kernel_rfl) ?_
        repeat (go_big_quiet_step (first | (go_at_call 43; exact ext_of_same (depthFits_is _ _ _ (unhide HD) _ hd0 hd1)) | (go_at_call 42; exact ext_of (isElement_is (L i) _ (unhide HE) _ ((unhide H _).node i hi).ok)) | (go_at_call 44; exact ext_of (isTextNode_is (L i) _ (unhide HT) _ ((unhide H _).node i hi).ok))))
        refine wpQuiet_nil ?_
        intro _ hw'
        obtain ⟨g, hw''⟩ := hw'
        subst hw''
        go_wp2
        go_ret
        exact ⟨ret_bool HX.out.symm, g.below⟩

end Go.Proofs.Ytobgcaemnpkbmaa
