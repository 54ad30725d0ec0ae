/- Take -/
import Derived.Deep.RegionHeld3
namespace Go.Proofs.YtobgcaemnpkbmaaGreat
open Go
def waitsB (md : Region.Mode) (ops : Array Oper) (j i : Nat) : Bool :=
  match ops[j]? with | some oj => oj.after.any (fun e => Region.binds md e && e.on == i) | none => false
def lastB (md : Region.Mode) (ops : Array Oper) (j : Nat) : Bool :=
  (List.range ops.size).all fun i => i == j || waitsB md ops j i || (List.range ops.size).any fun k => waitsB md ops j k && waitsB md ops k i
def closedB (md : Region.Mode) (ops : Array Oper) (listed : Array Bool) : Bool :=
  (List.range ops.size).all fun j => !(listed.getD j false) || (List.range ops.size).all fun i => !(waitsB md ops j i) || listed.getD i false
theorem waitsB_spec {md : Region.Mode} {ops : Array Oper} {i j : Nat} {oj : Oper} (h : waitsB md ops j i = true) (hj : ops[j]? = some oj) : ∃ e, e ∈ oj.after ∧ Region.binds md e = true ∧ e.on = i := by
  unfold waitsB at h
  simp only [hj] at h
  obtain ⟨e, he, hb⟩ := Array.any_eq_true'.1 h
  simp only [Bool.and_eq_true, beq_iff_eq] at hb
  exact ⟨e, he, hb.1, hb.2⟩
def Closed (md : Region.Mode) (ops : Array Oper) (listed : Array Bool) : Prop := ∀ j i, i < ops.size → listed.getD j false = true → waitsB md ops j i = true → listed.getD i false = true
theorem closed_of {md : Region.Mode} {ops : Array Oper} {listed : Array Bool} (h : closedB md ops listed = true) : Closed md ops listed := by
  intro j i hi hl hw
  have hj : j < ops.size := by
    by_cases hj : j < ops.size
    · exact hj
    · unfold waitsB at hw
      rw [Array.getElem?_eq_none (Nat.le_of_not_lt hj)] at hw
      cases hw
  have h1 := List.all_eq_true.1 h j (List.mem_range.2 hj)
  rw [hl] at h1
  simp only [Bool.not_true, Bool.false_or] at h1
  have h2 := List.all_eq_true.1 h1 i (List.mem_range.2 hi)
  rw [hw] at h2
  simpa using h2
def wpAnyT (P : Program) (md : Region.Mode) (ops : Array Oper) (Q : Exit → Act → World → Prop) (S : World → Prop) : Nat → Array Bool → Act → World → Prop
  | 0, listed, a, w => Region.ready md ops listed = [] ∧ Q .normal a w
  | fuel + 1, listed, a, w =>
    (Region.ready md ops listed = [] → Q .normal a w) ∧
    ∀ i ∈ Region.ready md ops listed, wpOp P ops Q i (fun a' w' => (lastB md ops i = true ∨ S w') ∧ wpAnyT P md ops Q S fuel (listed.setIfInBounds i true) a' w') a w
section
variable {P : Program} {md : Region.Mode} {ops : Array Oper} {Q : Exit → Act → World → Prop} {S : World → Prop}
theorem wpAny_of_last : ∀ (fuel : Nat) (listed : Array Bool) (a : Act) (w : World), wpAnyT P md ops Q S fuel listed a w → wpAny P md ops Q fuel listed a w
  | 0, _, _, _, h => h
  | fuel + 1, _, _, _, h => ⟨h.1, fun i hi => wpOp_mono (fun a' w' h' => wpAny_of_last fuel _ a' w' h'.2) (h.2 i hi)⟩
theorem wpAnyT_first {i : Nat} {oi : Oper} {v : Value} (hi : ops[i]? = some oi) (hsel : ∀ (j : Nat) (o : Oper) cs b, ops[j]? = some o → o.op ≠ .select cs b)
    (hQ : ∀ c a w, Q (.panic c) (a.put oi.dst v) w → Q (.panic c) a w) :
    ∀ (fuel : Nat) (listed : Array Bool) (a : Act) (w : World),
      (∀ j oj, ops[j]? = some oj → j ≠ i → listed.getD j true = false → (∀ e ∈ oj.after, Region.binds md e = true → e.on ≠ i) → oi.apart ops oj = true) →
      Closed md ops listed → i ∈ Region.ready md ops listed → YieldsIf P ops S oi v a → S w →
      wpAnyT P md ops Q S fuel (listed.setIfInBounds i true) (a.put oi.dst v) w → wpAnyT P md ops Q S (fuel + 1) listed a w := by
  have hin : i < ops.size := (Array.getElem?_eq_some_iff.1 hi).1
  intro fuel
  induction fuel with
  | zero =>
    intro listed a w _ _ hr hy hS H
    refine ⟨fun h => absurd (h ▸ hr) List.not_mem_nil, fun j hj => ?_⟩
    by_cases hji : j = i
    · subst hji; exact hy.wpOp hi hS ⟨.inr hS, H⟩
    · exact absurd (H.1 ▸ ready_mono hj hji) List.not_mem_nil
  | succ fuel ih =>
    intro listed a w hfree hcl hr hy hS H
    refine ⟨fun h => absurd (h ▸ hr) List.not_mem_nil, fun j hj => ?_⟩
    by_cases hji : j = i
    · subst hji; exact hy.wpOp hi hS ⟨.inr hS, H⟩
    · have h1 := H.2 j (ready_mono hj hji)
      obtain ⟨hjun, oj, hoj, hall⟩ := mem_ready.1 hj
      have hnot : ∀ e ∈ oj.after, Region.binds md e = true → e.on ≠ i := by
        intro e he hb heq
        have h2 := hall e he hb
        have h0 := (mem_ready.1 hr).1
        rw [heq] at h2
        by_cases h' : i < listed.size
        · simp [h'] at h0 h2
          rw [h0] at h2
          cases h2
        · simp [Array.getElem?_eq_none (Nat.le_of_not_lt h')] at h2
      have hlast : lastB md ops j = false := by
        cases hl : lastB md ops j with
        | false => rfl
        | true =>
          have h3 := List.all_eq_true.1 hl i (List.mem_range.2 hin)
          simp only [Bool.or_eq_true, beq_iff_eq] at h3
          rcases h3 with (e | e) | e
          · exact absurd e (Ne.symm hji)
          · obtain ⟨e, he, hb, hon⟩ := waitsB_spec e hoj
            exact absurd hon (hnot e he hb)
          · obtain ⟨k, _, e⟩ := List.any_eq_true.1 e
            simp only [Bool.and_eq_true] at e
            obtain ⟨e1, he, hb, hon⟩ := waitsB_spec e.1 hoj
            have hk := hall e1 he hb
            rw [hon] at hk
            have h4 := hcl k i hin hk e.2
            have h0 := (mem_ready.1 hr).1
            by_cases h' : i < listed.size
            · simp [h'] at h0 h4
              rw [h0] at h4
              cases h4
            · simp [Array.getElem?_eq_none (Nat.le_of_not_lt h')] at h4
      have h2 := wpOp_putIf hoj (hfree j oj hoj hji hjun hnot) (fun cs b => hsel i oi cs b hi) (fun cs b => hsel j oj cs b hoj) hQ hy h1
      have hfree' : ∀ k ok, ops[k]? = some ok → k ≠ i → (listed.setIfInBounds j true).getD k true = false →
          (∀ e ∈ ok.after, Region.binds md e = true → e.on ≠ i) → oi.apart ops ok = true := by
        intro k ok hk hki hun hno
        refine hfree k ok hk hki ?_ hno
        by_cases hjk : j = k
        · subst hjk; exact hjun
        · rwa [getD_set_ne true hjk] at hun
      refine wpOp_mono (fun a' w' h3 => ?_) h2
      have hS' : S w' := by
        rcases h3.2.1 with e | e
        · rw [hlast] at e; cases e
        · exact e
      have hcl' : Closed md ops (listed.setIfInBounds j true) := by
        intro j' i' hi' hl' hw'
        by_cases hjj : j = j'
        · subst hjj
          obtain ⟨e, he, hb, hon⟩ := waitsB_spec hw' hoj
          exact hon ▸ getD_set_true (hall e he hb)
        · rw [getD_set_ne false hjj] at hl'
          exact getD_set_true (hcl j' i' hi' hl' hw')
      refine ⟨.inr hS', ih (listed.setIfInBounds j true) a' w' hfree' hcl' (ready_mono hr (Ne.symm hji)) h3.1 hS' ?_⟩
      rw [Array.setIfInBounds_comm _ _ hji]
      exact h3.2.2
theorem wpAnyT_take {i : Nat} {oi : Oper} {v : Value} {fuel : Nat} {listed : Array Bool} {a : Act} {w : World} (hi : ops[i]? = some oi)
    (hs : Region.noSelect ops = true) (hf : Region.free md ops listed i = true) (hr : (Region.ready md ops listed).contains i = true) (hc : closedB md ops listed = true)
    (hQ : ∀ c a w, Q (.panic c) (a.put oi.dst v) w → Q (.panic c) a w) (hy : YieldsIf P ops S oi v a) (hS : S w)
    (h : wpAnyT P md ops Q S fuel (listed.setIfInBounds i true) (a.put oi.dst v) w) : wpAnyT P md ops Q S (fuel + 1) listed a w :=
  wpAnyT_first hi (Region.noSelect_spec hs) hQ fuel listed a w (Region.free_spec hi hf) (closed_of hc) (by simpa using hr) hy hS h
theorem wpAnyT_one {i : Nat} {oi : Oper} {fuel : Nat} {listed : Array Bool} {a : Act} {w : World} (hi : ops[i]? = some oi) (hr : Region.ready md ops listed = [i]) (hw : Region.wanted oi (yielded ops a.tmps) = true)
    (h : oi.wp P a w (fun a' w' => (lastB md ops i = true ∨ S w') ∧ wpAnyT P md ops Q S fuel (listed.setIfInBounds i true) a' w') Q) : wpAnyT P md ops Q S (fuel + 1) listed a w := by
  refine ⟨fun h0 => absurd (hr.symm.trans h0) (List.cons_ne_nil _ _), fun j hj => ?_⟩
  rw [hr] at hj
  have := List.mem_singleton.1 hj
  subst this
  unfold Go.wpOp
  simp only [hi, hw, if_true]
  exact .inl h
theorem wpAnyT_done {listed : Array Bool} {a : Act} {w : World} (hr : Region.ready md ops listed = []) (h : Q .normal a w) : ∀ fuel, wpAnyT P md ops Q S fuel listed a w
  | 0 => ⟨hr, h⟩
  | _ + 1 => ⟨fun _ => h, fun _ hi => absurd (hr ▸ hi) List.not_mem_nil⟩
theorem wp_region_last {id : Nat} {a : Act} {w : World} (hm : P.follows .mixedOrders = true)
    (h : wpAnyT P .any ops Q S ops.size (Array.replicate ops.size false) a w.drew) : (Code.region id ops true).wp P Q a w :=
  wp_region_any hm (wpAny_of_last _ _ _ _ h)
end
end Go.Proofs.YtobgcaemnpkbmaaGreat
