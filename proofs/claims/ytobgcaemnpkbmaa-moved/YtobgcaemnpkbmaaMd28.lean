/- Fg Fh Fi Fj -/
import Derived.Test.YtobgcaemnpkbmaaMd25
import Derived.Test.YtobgcaemnpkbmaaMd03
import Derived.Shelf.RegionOpenPlain
namespace Go.Proofs.Ytobgcaemnpkbmaa
open Go.RowKit
def keepB (x : Int) : Bool := !noneB x
theorem filter_all {l : List Int} (h : idxP noneB l = -1) : l.filter keepB = l := by
  rw [List.filter_eq_self]
  intro x hx
  unfold idxP at h
  cases hf : l.findIdx? noneB with
  | some k => rw [hf] at h; simp at h
  | none =>
    rw [List.findIdx?_eq_none_iff] at hf
    unfold keepB
    rw [hf x hx]
    rfl
theorem idx_cases (l : List Int) : idxP noneB l = -1 ∨ ∃ k, ∃ hk : k < l.length, idxP noneB l = (k : Int) ∧ noneB l[k] = true ∧ ∀ j, (hj : j < l.length) → j < k → noneB l[j] = false := by
  unfold idxP
  cases hf : l.findIdx? noneB with
  | none => exact .inl rfl
  | some k =>
    rw [List.findIdx?_eq_some_iff_getElem] at hf
    obtain ⟨hk, e, hall⟩ := hf
    exact .inr ⟨k, hk, rfl, e, fun j hj h => by simpa using hall j h⟩
theorem take_filter {l : List Int} {k : Nat} (hk : k < l.length) (hn : noneB l[k] = true) (hall : ∀ j, (hj : j < l.length) → j < k → noneB l[j] = false) : (l.take (k + 1)).filter keepB = l.take k := by
  rw [List.take_succ_eq_append_getElem hk, List.filter_append]
  have h1 : (l.take k).filter keepB = l.take k := by
    rw [List.filter_eq_self]
    intro x hx
    obtain ⟨j, hj, rfl⟩ := List.getElem_of_mem hx
    rw [List.length_take] at hj
    rw [List.getElem_take]
    unfold keepB
    rw [hall j (by omega) (by omega)]
    rfl
  rw [h1]
  simp [keepB, hn]
theorem ints_take (l : List Int) (k : Nat) : (ints l).take k = ints (l.take k) := by unfold ints; rw [List.map_take]
theorem ints_drop (l : List Int) (k : Nat) : (ints l).drop k = ints (l.drop k) := by unfold ints; rw [List.map_drop]
set_option maxHeartbeats 1000000 in
set_option maxRecDepth 100000 in
theorem deleteFuncI_any (B : Nat) (ao : Option Addr) (n c : Nat) (l : List Int) (w : World) (h : w.ownsRow B 3 1 (.slice ao n c) n (ints l)) (hn : n ≤ 1000000) :
    Calls Try.prog 80 #[.slice ao n c, .func (.func 82) #[] #[]] w fun e w' => ∃ q, e = .returned q ∧ w'.ownsRow B 3 1 q (l.filter keepB).length (ints (l.filter keepB)) ∧ Touch (fun b => B ≤ b) w w' := by
  have HC := hide (indexFuncI_any B ao n c l w h hn)
  have hl : l.length = n := by have := h.1; rw [ints_length] at this; omega
  rcases idx_cases l with e0 | ⟨k, hk, e0, hnone, hall⟩
  · have HF := hide (filter_all e0)
    have H := hide h
    rw [e0] at HC
    clear h e0
    go_enter Try.func80, Try.ntmps80
    go_wp2_with (first | (go_at_call 97; refine (unhide HC).mono ?_; rintro e w1 ⟨rfl, rfl⟩))
    go_ret
    refine ⟨_, rfl, ?_, Touch.of_below (Below.refl _ _)⟩
    rw [HF.out, hl]
    exact H.out
  · rw [e0] at HC
    have HTk := hide (take_filter hk hnone hall)
    have h0 : 0 < n := by omega
    obtain ⟨g, _, hao, _, hBg, hgl⟩ := ints_at h h0
    subst hao
    have H0 : Hid (∃ xs, w.ownsRow B 3 1 (.slice (some ⟨g, 0, none⟩) n c) n xs ∧ xs.take k = ints ((l.take (k + 1)).filter keepB) ∧ xs.drop (k + 1) = ints (l.drop (k + 1)) ∧ ((l.take (k + 1)).filter keepB).length = k) := hide ⟨ints l, h, by rw [HTk.out, ints_take], ints_drop _ _, by rw [HTk.out, List.length_take]; omega⟩
    clear h e0 HTk hnone hall
    go_enter Try.func80, Try.ntmps80
    go_wp2_with (first | (go_at_call 97; refine (unhide HC).mono ?_; rintro e w ⟨rfl, rfl⟩))
    go_loopw [5, 6, 7] (fun iV jV _ wr => ∃ i j : Nat, i < j ∧ j ≤ n ∧ iV = .int .i64 i ∧ jV = .int .i64 j ∧ Hid (∃ xs, wr.ownsRow B 3 1 (.slice (some ⟨g, 0, none⟩) n c) n xs ∧ xs.take i = ints ((l.take j).filter keepB) ∧ xs.drop j = ints (l.drop j) ∧ ((l.take j).filter keepB).length = i) ∧ Hid (Touch (fun b => B ≤ b) w wr)) (fun _ jV _ _ => n - (intOf jV).toNat)
    case atStart => exact ⟨k, k + 1, by omega, by omega, rfl, by go_num, H0, hide (Touch.of_below (Below.refl _ _))⟩
    case round =>
      obtain ⟨i, j, hij, hjn, rfl, rfl, hrow, htch⟩ := hrel
      clear H0 HC
      obtain ⟨xs, hx, hxt, hxd, hlen⟩ := hrow.out
      have hxl : xs.length = n := by have := hx.1; omega
      have fz : ∀ o, wr.frozen? ⟨g, o, none⟩ = false := fun o => hx.frozenAt o
      by_cases hlt : j < n
      · have hjl : j < l.length := by omega
        have cj : wr.cell? ⟨g, j, none⟩ = some (.int .i64 l[j]) := by
          rw [hx.cellAt j (by omega)]
          have h1 := congrArg (fun z => z[0]?) hxd
          simp only [List.getElem?_drop, Nat.add_zero] at h1
          rw [h1]
          unfold ints
          rw [List.getElem?_map, List.getElem?_drop, Nat.add_zero, List.getElem?_eq_getElem hjl]
          rfl
        have ci : ∃ u, wr.cell? ⟨g, i, none⟩ = some u := ⟨xs[i]'(by omega), by rw [hx.cellAt i (by omega), List.getElem?_eq_getElem]⟩
        obtain ⟨u, ci⟩ := ci
        have hji : (j : Int) < (n : Int) := by omega
        have hii : (i : Int) < (n : Int) := by omega
        have HN := hide (isNone_any l[j] wr)
        have hd1 : xs.drop (j + 1) = ints (l.drop (j + 1)) := by
          have := congrArg (List.drop 1) hxd
          rw [List.drop_drop, ints_drop, List.drop_drop] at this
          exact this
        by_cases e : noneB l[j] = true
        · have e' : (l[j] == -1) = true := e
          have HR : Hid (∃ xs, wr.ownsRow B 3 1 (.slice (some ⟨g, 0, none⟩) n c) n xs ∧ xs.take i = ints ((l.take (j + 1)).filter keepB) ∧ xs.drop (j + 1) = ints (l.drop (j + 1)) ∧ ((l.take (j + 1)).filter keepB).length = i) := by
            have e2 : (l.take (j + 1)).filter keepB = (l.take j).filter keepB := by
              rw [List.take_succ_eq_append_getElem hjl, List.filter_append]
              simp [keepB, e]
            exact hide ⟨xs, hx, by rw [e2]; exact hxt, hd1, by rw [e2]; exact hlen⟩
          rw [e'] at HN
          clear hx hxt hxd hlen hxl hd1 hrow
          go_wp2_with (first | (go_at_call 82; refine (unhide HN).mono ?_; rintro e w1 ⟨rfl, rfl⟩))
          go_roundw
          case rel => exact ⟨_, _, _, _, _, _, _, _, _, _, _, _, _, _, _, _, _, _, _, _, _, _, _, ⟨i, j + 1, by omega, by omega, rfl, by go_num, HR, htch⟩, rfl⟩
          case measure => simp [intOf]; omega
        · have e : noneB l[j] = false := by simpa using e
          have e' : (l[j] == -1) = false := e
          have HR : Hid (∃ xs, (wr.setCell ⟨g, i, none⟩ (.int .i64 l[j])).ownsRow B 3 1 (.slice (some ⟨g, 0, none⟩) n c) n xs ∧ xs.take (i + 1) = ints ((l.take (j + 1)).filter keepB) ∧ xs.drop (j + 1) = ints (l.drop (j + 1)) ∧ ((l.take (j + 1)).filter keepB).length = i + 1) := by
            have e2 : (l.take (j + 1)).filter keepB = (l.take j).filter keepB ++ [l[j]] := by
              rw [List.take_succ_eq_append_getElem hjl, List.filter_append]
              simp [keepB, e]
            refine hide ⟨xs.set i (.int .i64 l[j]), (hx.stored i _).1, ?_, ?_, ?_⟩
            · rw [e2, ints_app, ← hxt, List.take_set, List.take_succ_eq_append_getElem (by omega), List.set_append_right _ _ (by rw [List.length_take]; omega)]
              simp [List.length_take, Nat.min_eq_left (show i ≤ xs.length by omega)]
            · rw [List.drop_set, if_pos (by omega)]; exact hd1
            · rw [e2, List.length_append, hlen]; rfl
          have HT : Hid (Touch (fun b => B ≤ b) w (wr.setCell ⟨g, i, none⟩ (.int .i64 l[j]))) := hide (htch.out.set (.inl hBg) _)
          rw [e'] at HN
          clear hx hxt hxd hlen hxl hd1 hrow
          go_wp2_with (first | (go_at_call 82; refine (unhide HN).mono ?_; rintro e w1 ⟨rfl, rfl⟩))
          go_roundw
          case rel => exact ⟨_, _, _, _, _, _, _, _, _, _, _, _, _, _, _, _, _, _, _, _, _, _, _, ⟨i + 1, j + 1, by omega, by omega, by go_num, by go_num, HR, HT⟩, rfl⟩
          case measure => simp [intOf]; omega
      · have hje : j = n := by omega
        subst hje
        have hji : ¬ (j : Int) < (j : Int) := by omega
        have hcl : ∀ ty, (Builtin.clear_ #[44] ty #[.slice (some ⟨g, i, none⟩) (j - i) (c - i)]).run Try.prog wr = .ok (.tuple #[]) (wr.setCells g i (List.replicate (j - i) (.int .i64 0))) := fun ty =>
          Lib.run_clear_slice wr _ _ ty _ Try.underlying44 (fun w => Try.zeroValue3 w) rfl rfl g i _ _ (by omega) (fun t ht => by rw [hx.cellAt (i + t) (by omega), List.getElem?_eq_getElem (by omega)]; rfl) (fun t _ => fz _)
        obtain ⟨cur, _, _, hnc, hcm⟩ := own_plain hx
        have HF : Hid ((wr.setCells g i (List.replicate (j - i) (.int .i64 0))).ownsRow B 3 1 (.slice (some ⟨g, 0, none⟩) i c) i (ints (l.filter keepB))) := by
          have h1 := own_cut (own_setCells (List.replicate (j - i) (Value.int .i64 0)) i hx) (m := i) (by omega)
          rw [layL_eq _ _ _ (by rw [List.length_replicate]; omega)] at h1
          have e3 : l.take j = l := List.take_of_length_le (by omega)
          rw [e3] at hxt
          have e4 : (xs.take i ++ List.replicate (j - i) (Value.int .i64 0) ++ xs.drop (i + (List.replicate (j - i) (Value.int .i64 0)).length)).take (i * 1) = ints (l.filter keepB) := by
            rw [List.append_assoc, List.take_append_of_le_length (by rw [List.length_take]; omega), Nat.mul_one, List.take_take, Nat.min_self, hxt]
          rw [e4] at h1
          exact hide h1
        have hfl : (l.filter keepB).length = i := by rw [List.take_of_length_le (by omega)] at hlen; exact hlen
        have HFl := hide hfl
        have HT : Hid (Touch (fun b => B ≤ b) w (wr.setCells g i (List.replicate (j - i) (.int .i64 0)))) := by
          obtain ⟨h1, h2⟩ := setCells_grown g (List.replicate (j - i) (Value.int .i64 0)) i wr
          have ht := htch.out
          exact hide ⟨h1.os.trans ht.os, h1.tape.trans ht.tape, h1.output.trans ht.output, Nat.le_trans ht.size h1.size, fun b hb hn => (h1.block b (Nat.lt_of_lt_of_le hb ht.size) (fun e => hn (by have := Option.some.inj e; omega))).trans (ht.block b hb hn)⟩
        have hin : (i : Int) ≤ (j : Int) := by omega
        have hic : i ≤ j := by omega
        clear hx hxt hxd hlen hxl hrow hfl
        go_wp2_with fail
        go_ret
        exact ⟨_, rfl, by rw [HFl.out]; exact HF.out, HT.out⟩
end Go.Proofs.Ytobgcaemnpkbmaa
namespace Go.Proofs.Ytobgcaemnpkbmaa
open Go.RowKit
set_option maxHeartbeats 1000000 in
theorem cloneI_any (B : Nat) (ao : Option Addr) (n c : Nat) (l : List Int) (w : World) (h : w.ownsRow B 3 1 (.slice ao n c) n (ints l)) (hn : n ≤ 1000000) :
    Calls Try.prog 81 #[.slice ao n c] w fun e w' => ∃ q, e = .returned q ∧ w'.ownsRow w.heap.size 3 1 q n (ints l) ∧ Below w.heap.size w w' := by
  obtain ⟨i0, hi, hz0, hz1, hz2⟩ := info_parts intInfo
  have heq : ∀ w a l c, (binOp .eql 44 (.slice a l c) (.slice none 0 0)).run Try.prog w = .ok (.bool a.isNone) w := fun w a l c =>
    Lib.run_eql_slice_nil (P := Try.prog) w 44 3 a l c 0 0 Try.underlying44
  have hl : l.length = n := by have := h.1; rw [ints_length] at this; omega
  cases ao with
  | none =>
    have h0 : n = 0 := by
      rcases h.2 with ⟨_, e⟩ | ⟨g, cap, cur, e, _⟩
      · exact e
      · simp at e
    subst h0
    have hl0 : l = [] := List.eq_nil_of_length_eq_zero hl
    subst hl0
    clear h
    go_enter Try.func81, Try.ntmps81
    go_wp2_with fail
    go_ret
    exact ⟨_, rfl, World.ownsRow_nil _ _ _ _, Below.refl _ _⟩
  | some ad =>
    have H := hide h
    have hnews : ∀ a, some ad = some a → ∀ j u, (ints l)[j]? = some u → ∀ O, (w.alloc O).cell? (a.add j) = some u := fun a ha j u hu O => by
      cases ha
      have hj : j < n := by
        have := (List.getElem?_eq_some_iff.1 hu).1
        rw [ints_length] at this
        omega
      obtain ⟨g, hjl, e, hc, _, hg⟩ := ints_at h hj
      cases e
      rw [addr_add, World.cell?_alloc_lt w O ⟨g, 0 + j, none⟩ hg, Nat.zero_add, hc]
      unfold ints at hu
      rw [List.getElem?_map, List.getElem?_eq_getElem hjl] at hu
      exact hu
    have HN := hide hnews
    clear h hnews
    go_enter Try.func81, Try.ntmps81
    have HO : Hid ((w.alloc (.cells #[] 3)).ownsRow w.heap.size 3 1 (.slice (some ⟨w.heap.size, 0, none⟩) 0 0) 0 []) := hide (by
      refine ⟨rfl, .inr ⟨w.heap.size, 0, #[], rfl, Nat.le_refl _, ?_, Nat.le_refl _, by unfold maxLen; omega, rfl, rfl⟩⟩
      show (w.heap.push _)[w.heap.size]? = _
      simp)
    go_wp2_with ((at_builtin; refine wpList_app _ rfl (.tmp 5) (.tmp 6) 44 rfl w.heap.size 3 i0 (.int .i64 0) 1 8 Try.underlying44 hi hz0 hz1 hz2 rfl (.slice (some ⟨w.heap.size, 0, none⟩) 0 0) 0 [] rfl HO.out (some ad) n c (ints l) rfl (by simp) (by rw [ints_length]; omega) (fun a ha j u hu => HN.out a ha j u hu _) (fun u hu => by unfold ints at hu; obtain ⟨x, _, rfl⟩ := List.mem_map.1 hu; rfl) (by omega) (by omega) (by simp) ?_; intro v5 w5 ho5 hg5 _))
    go_ret
    have hb := ((Below.refl w.heap.size w).alloc (Nat.le_refl _) (.cells #[] 3)).grown hg5.out.by (by simp) (fun b e => (HO.out.lt b e).1)
    have ho := ho5.out
    rw [Nat.zero_add, List.nil_append] at ho
    exact ⟨_, rfl, ho, hb⟩
end Go.Proofs.Ytobgcaemnpkbmaa
namespace Go.Proofs.Ytobgcaemnpkbmaa
open Go.RowKit
def revTo (l : List Int) (t : Nat) : List Int := (List.range l.length).map fun p => if p < t ∨ l.length - t ≤ p then l.getD (l.length - 1 - p) 0 else l.getD p 0
theorem revTo_length (l : List Int) (t : Nat) : (revTo l t).length = l.length := by unfold revTo; simp
theorem revTo_get (l : List Int) (t p : Nat) (hp : p < l.length) : (revTo l t)[p]'(by rw [revTo_length]; exact hp) = if p < t ∨ l.length - t ≤ p then l.getD (l.length - 1 - p) 0 else l.getD p 0 := by
  unfold revTo
  rw [List.getElem_map, List.getElem_range]
theorem revTo_zero (l : List Int) : revTo l 0 = l := by
  apply List.ext_getElem (revTo_length l 0)
  intro p h1 h2
  rw [revTo_get l 0 p h2, if_neg (by omega), List.getD_eq_getElem?_getD, List.getElem?_eq_getElem h2]
  rfl
theorem revTo_end (l : List Int) (t : Nat) (ht : l.length ≤ 2 * t + 1) (ht2 : 2 * t ≤ l.length) : revTo l t = l.reverse := by
  apply List.ext_getElem (by rw [revTo_length, List.length_reverse])
  intro p h1 h2
  have hp : p < l.length := by rwa [revTo_length] at h1
  rw [revTo_get l t p hp, List.getElem_reverse]
  have e : ∀ q, (hq : q < l.length) → l.getD q 0 = l[q] := fun q hq => by rw [List.getD_eq_getElem?_getD, List.getElem?_eq_getElem hq]; rfl
  split
  · rw [e _ (by omega)]
  · rw [e _ hp]
    congr 1
    omega
theorem revTo_step (l : List Int) (t : Nat) (ht : t < l.length - 1 - t) : ((revTo l t).set t (l.getD (l.length - 1 - t) 0)).set (l.length - 1 - t) (l.getD t 0) = revTo l (t + 1) := by
  apply List.ext_getElem (by simp [revTo_length])
  intro p h1 h2
  have hp : p < l.length := by rwa [revTo_length] at h2
  rw [revTo_get l (t + 1) p hp, List.getElem_set, List.getElem_set]
  by_cases e1 : l.length - 1 - t = p
  · rw [if_pos e1, if_pos (by omega)]
    congr 1
    omega
  · rw [if_neg e1]
    by_cases e2 : t = p
    · rw [if_pos e2, if_pos (by omega)]
      congr 1
      omega
    · rw [if_neg e2, revTo_get l t p hp]
      by_cases e3 : p < t ∨ l.length - t ≤ p
      · rw [if_pos e3, if_pos (by omega)]
      · rw [if_neg e3, if_neg (by omega)]
theorem revTo_mid (l : List Int) (t p : Nat) (h1 : t ≤ p) (h2 : p < l.length - t) : (ints (revTo l t))[p]? = some (.int .i64 (l.getD p 0)) := by
  unfold ints
  rw [List.getElem?_map, List.getElem?_eq_getElem (by rw [revTo_length]; omega), revTo_get l t p (by omega), if_neg (by omega)]
  rfl
theorem ints_set (l : List Int) (k : Nat) (x : Int) : (ints l).set k (.int .i64 x) = ints (l.set k x) := by unfold ints; rw [List.map_set]
set_option maxHeartbeats 2000000 in
set_option maxRecDepth 100000 in
theorem reverseI_any (B : Nat) (ao : Option Addr) (n c : Nat) (l : List Int) (w : World) (h : w.ownsRow B 3 1 (.slice ao n c) n (ints l)) (hn : n ≤ 1000000) :
    Calls Try.prog 96 #[.slice ao n c] w fun e w' => e = .returned (.tuple #[]) ∧ w'.ownsRow B 3 1 (.slice ao n c) n (ints l.reverse) ∧ Touch (fun b => B ≤ b) w w' := by
  have hl : l.length = n := by have := h.1; rw [ints_length] at this; omega
  have H0 : Hid (w.ownsRow B 3 1 (.slice ao n c) n (ints (revTo l 0))) := hide (by rw [revTo_zero]; exact h)
  clear h
  go_enter Try.func96, Try.ntmps96
  go_wp2_with fail
  go_loopw [2, 3] (fun iV jV wr => ∃ t : Nat, 2 * t ≤ n ∧ iV = .int .i64 t ∧ jV = .int .i64 ((n : Int) - 1 - t) ∧ Hid (wr.ownsRow B 3 1 (.slice ao n c) n (ints (revTo l t))) ∧ Hid (Touch (fun b => B ≤ b) w wr)) (fun iV _ _ => n - (intOf iV).toNat)
  case atStart => exact ⟨0, by omega, rfl, by go_num, H0, hide (Touch.of_below (Below.refl _ _))⟩
  case round =>
    obtain ⟨t, ht2, rfl, rfl, hrow, htch⟩ := hrel
    clear H0
    by_cases hlt : (t : Int) < (n : Int) - 1 - t
    · have hx := hrow.out
      obtain ⟨g, cap, e⟩ : ∃ g cap, Value.slice ao n c = .slice (some ⟨g, 0, none⟩) n cap := by
        rcases hx.2 with ⟨_, e⟩ | ⟨g, cap, cur, e, _⟩
        · omega
        · exact ⟨g, cap, e⟩
      simp at e
      obtain ⟨rfl, rfl⟩ := e
      have hgB := (hx.lt g rfl)
      have ci : wr.cell? ⟨g, t, none⟩ = some (.int .i64 (l.getD t 0)) := (hx.cellAt t (by omega)).trans (revTo_mid l t t (by omega) (by omega))
      have cj : wr.cell? ⟨g, n - 1 - t, none⟩ = some (.int .i64 (l.getD (n - 1 - t) 0)) := (hx.cellAt (n - 1 - t) (by omega)).trans (revTo_mid l t (n - 1 - t) (by omega) (by omega))
      have fi := hx.frozenAt t
      have fj := hx.frozenAt (n - 1 - t)
      have ej : (n : Int) - 1 - t = ((n - 1 - t : Nat) : Int) := by omega
      rw [ej] at hlt ⊢
      have HR : Hid (∀ w2 : World, w2.heap = ((wr.setCell ⟨g, t, none⟩ (.int .i64 (l.getD (n - 1 - t) 0))).setCell ⟨g, n - 1 - t, none⟩ (.int .i64 (l.getD t 0))).heap → w2.ownsRow B 3 1 (.slice (some ⟨g, 0, none⟩) n c) n (ints (revTo l (t + 1)))) := hide fun w2 e2 => by
        have h1 := ((hx.stored t (.int .i64 (l.getD (n - 1 - t) 0))).1.stored (n - 1 - t) (.int .i64 (l.getD t 0))).1
        rw [ints_set, ints_set] at h1
        subst hl
        rw [revTo_step l t (by omega)] at h1
        exact own_heap h1 fun b _ => by rw [e2]
      have HT : Hid (Touch (fun b => B ≤ b) w ((wr.setCell ⟨g, t, none⟩ (.int .i64 (l.getD (n - 1 - t) 0))).setCell ⟨g, n - 1 - t, none⟩ (.int .i64 (l.getD t 0)))) := hide ((htch.out.set (.inl hgB.1) _).set (.inl hgB.1) _)
      clear hx hrow
      have mixed : Try.prog.follows .mixedOrders = true := by kernel_rfl
      have htn : t < n := by omega
      have hqn : n - 1 - t < n := by omega
      generalize hq : n - 1 - t = q at *
      generalize l.getD t 0 = x at *
      generalize l.getD q 0 = y at *
      go_wp2_with fail
      go_region_o
      go_wp2_with fail
      go_roundw
      case rel =>
        refine ⟨t + 1, by omega, by go_num, ?_, hide (HR.out _ rfl), hide ⟨HT.out.os, HT.out.tape, HT.out.output, HT.out.size, HT.out.block⟩⟩
        congr 1
        omega
      case measure => simp [intOf]; omega
    · have HE := hide (revTo_end l t (by omega) (by omega))
      go_wp2_with fail
      refine bodyPost_end (results_none rfl _ _ _) rfl ?_
      exact ⟨rfl, by rw [← HE.out]; exact hrow.out, htch.out⟩
end Go.Proofs.Ytobgcaemnpkbmaa
namespace Go.Proofs.Ytobgcaemnpkbmaa
open Go.RowKit
def headN (c : List Nat) : Nat := c.headD 0
def endAt (v : Nat → Int) (C : List (List Nat)) (i : Nat) : Nat := (C.takeWhile fun c => decide (v (headN c) < v i)).length
def newC (C : List (List Nat)) (p i : Nat) : List Nat := i :: (if p = 0 then [] else C.getD (p - 1) [])
def rowStep (v : Nat → Int) (C : List (List Nat)) (i : Nat) : List (List Nat) :=
  if endAt v C i < C.length then C.set (endAt v C i) (newC C (endAt v C i) i) else C ++ [newC C (endAt v C i) i]
def rowsTo (v : Nat → Int) : Nat → List (List Nat)
  | 0 => []
  | i + 1 => rowStep v (rowsTo v i) i
def rowP (v : Nat → Int) (n : Nat) : List Int := (((rowsTo v n).getLastD []).map v).reverse
theorem endAt_le (v : Nat → Int) (C : List (List Nat)) (i : Nat) : endAt v C i ≤ C.length := by unfold endAt; exact List.takeWhile_prefix _ |>.length_le
theorem endAt_is {v : Nat → Int} {C : List (List Nat)} {i p : Nat} (hp : p ≤ C.length) (hlt : ∀ q, (hq : q < C.length) → q < p → v (headN C[q]) < v i) (hend : (hp : p < C.length) → ¬ v (headN C[p]) < v i) : endAt v C i = p := by
  unfold endAt
  induction C generalizing p with
  | nil => simp at hp; subst hp; rfl
  | cons a C ih =>
    cases p with
    | zero =>
      have := hend (by simp)
      rw [List.takeWhile_cons, if_neg (by simpa using this)]
      rfl
    | succ p =>
      have h0 := hlt 0 (by simp) (by omega)
      rw [List.takeWhile_cons, if_pos (by simpa using h0), List.length_cons, ih (p := p) (by simpa using hp) (fun q hq h => ?_) (fun h => ?_)]
      · exact hlt (q + 1) (by simpa using hq) (by omega)
      · exact hend (by simpa using h)
def backOk (ah : Nat → Int) : List Nat → Prop
  | [] => True
  | x :: r => ah x = (match r with | [] => -1 | y :: _ => (y : Int)) ∧ backOk ah r
theorem backOk_congr {ah ah' : Nat → Int} : ∀ {c : List Nat}, (∀ x, x ∈ c → ah' x = ah x) → backOk ah c → backOk ah' c := by
  intro c
  induction c with
  | nil => intro _ _; trivial
  | cons x r ih => intro h hb; exact ⟨(h x (by simp)).trans hb.1, ih (fun y hy => h y (by simp [hy])) hb.2⟩
structure RowsOk (ah : Nat → Int) (C : List (List Nat)) (i : Nat) : Prop where
  ne : ∀ c, c ∈ C → c ≠ []
  lt : ∀ c, c ∈ C → ∀ x, x ∈ c → x < i
  back : ∀ c, c ∈ C → backOk ah c
  dec : ∀ c, c ∈ C → c.Pairwise fun x y => y < x
  few : C.length ≤ i
theorem RowsOk.zero (ah : Nat → Int) : RowsOk ah [] 0 := ⟨fun _ h => by simp at h, fun _ h => by simp at h, fun _ h => by simp at h, fun _ h => by simp at h, Nat.le_refl _⟩
def aheadP (C : List (List Nat)) (p : Nat) : Int := if p = 0 then -1 else (headN (C.getD (p - 1) []) : Int)
theorem mem_newC {C : List (List Nat)} {p i : Nat} {x : Nat} (h : x ∈ newC C p i) : x = i ∨ ∃ c, c ∈ C ∧ x ∈ c := by
  unfold newC at h
  rcases List.mem_cons.1 h with h | h
  · exact .inl h
  · right
    split at h
    · simp at h
    · rw [List.getD_eq_getElem?_getD] at h
      cases hc : C[p - 1]? with
      | none => rw [hc] at h; simp at h
      | some c => rw [hc] at h; exact ⟨c, List.mem_of_getElem? hc, h⟩
theorem RowsOk.step {ah ah' : Nat → Int} {v : Nat → Int} {C : List (List Nat)} {i : Nat} (h : RowsOk ah C i) (hold : ∀ x, x < i → ah' x = ah x) (hnew : ah' i = aheadP C (endAt v C i)) : RowsOk ah' (rowStep v C i) (i + 1) := by
  have hp := endAt_le v C i
  have hmem : ∀ c, c ∈ rowStep v C i → c ∈ C ∨ c = newC C (endAt v C i) i := fun c hc => by
    unfold rowStep at hc
    split at hc
    · rcases List.mem_or_eq_of_mem_set hc with e | e
      · exact .inl e
      · exact .inr e
    · rcases List.mem_append.1 hc with e | e
      · exact .inl e
      · exact .inr (List.mem_singleton.1 e)
  refine ⟨fun c hc => ?_, fun c hc x hx => ?_, fun c hc => ?_, fun c hc => ?_, ?_⟩
  · rcases hmem c hc with e | e
    · exact h.ne c e
    · rw [e]; unfold newC; simp
  · rcases hmem c hc with e | e
    · have := h.lt c e x hx; omega
    · rw [e] at hx
      rcases mem_newC hx with e2 | ⟨c', h1, h2⟩
      · omega
      · have := h.lt c' h1 x h2; omega
  · rcases hmem c hc with e | e
    · exact backOk_congr (fun x hx => hold x (h.lt c e x hx)) (h.back c e)
    · rw [e]
      unfold newC aheadP at *
      by_cases h0 : endAt v C i = 0
      · rw [if_pos h0] at hnew ⊢
        exact ⟨hnew, trivial⟩
      · rw [if_neg h0] at hnew ⊢
        have hl : endAt v C i - 1 < C.length := by omega
        rw [List.getD_eq_getElem?_getD, List.getElem?_eq_getElem hl] at hnew ⊢
        have hm : C[endAt v C i - 1] ∈ C := List.getElem_mem hl
        have hn := h.ne _ hm
        simp only [Option.getD_some] at hnew ⊢
        cases hx : C[endAt v C i - 1] with
        | nil => exact absurd hx hn
        | cons y r =>
          rw [hx] at hnew hm
          exact ⟨hnew, backOk_congr (fun x hx2 => hold x (h.lt _ hm x hx2)) (h.back _ hm)⟩
  · rcases hmem c hc with e | e
    · exact h.dec c e
    · rw [e]
      unfold newC
      by_cases h0 : endAt v C i = 0
      · rw [if_pos h0]; simp
      · have hl : endAt v C i - 1 < C.length := by omega
        have hm : C[endAt v C i - 1] ∈ C := List.getElem_mem hl
        rw [if_neg h0, List.getD_eq_getElem?_getD, List.getElem?_eq_getElem hl]
        exact List.pairwise_cons.2 ⟨fun y hy => h.lt _ hm y hy, h.dec _ hm⟩
  · unfold rowStep
    have := h.few
    split
    · rw [List.length_set]; omega
    · rw [List.length_append]; simp; omega
theorem desc_length : ∀ {c : List Nat} {i : Nat}, (c.Pairwise fun x y => y < x) → (∀ x, x ∈ c → x < i) → c.length ≤ i := by
  intro c
  induction c with
  | nil => intro i _ _; exact Nat.zero_le _
  | cons x r ih =>
    intro i hp hlt
    have h1 := List.pairwise_cons.1 hp
    have h2 := ih h1.2 h1.1
    have h3 := hlt x (by simp)
    rw [List.length_cons]
    omega
def chAt (ch : List Nat) (k : Nat) : Int := if h : k < ch.length then (ch[k] : Int) else -1
theorem chAt_lt {ch : List Nat} {k : Nat} (h : k < ch.length) : chAt ch k = (ch[k] : Int) := by unfold chAt; rw [dif_pos h]
theorem chAt_end {ch : List Nat} {k : Nat} (h : ¬ k < ch.length) : chAt ch k = -1 := by unfold chAt; rw [dif_neg h]
theorem chAt_dec {ch : List Nat} (hp : ch.Pairwise fun x y => y < x) {k : Nat} (h : k < ch.length) : (chAt ch (k + 1) + 1).toNat < (chAt ch k + 1).toNat := by
  rw [chAt_lt h]
  by_cases h1 : k + 1 < ch.length
  · rw [chAt_lt h1]
    have := List.pairwise_iff_getElem.1 hp k (k + 1) h h1 (by omega)
    omega
  · rw [chAt_end h1]; omega
def endsP (C : List (List Nat)) : List Int := -1 :: C.map fun c => (headN c : Int)
theorem endsP_length (C : List (List Nat)) : (endsP C).length = C.length + 1 := by unfold endsP; simp
theorem endsP_get (C : List (List Nat)) (q : Nat) (hq : q < C.length) : (ints (endsP C))[q + 1]? = some (.int .i64 (headN C[q] : Int)) := by
  unfold ints endsP
  rw [List.map_cons, List.getElem?_cons_succ, List.map_map, List.getElem?_map, List.getElem?_eq_getElem hq]
  rfl
theorem endsP_ahead (C : List (List Nat)) (p : Nat) (hp : p ≤ C.length) : (ints (endsP C))[p]? = some (.int .i64 (aheadP C p)) := by
  unfold aheadP
  cases p with
  | zero => rfl
  | succ p =>
    rw [endsP_get C p (by omega), if_neg (by omega)]
    simp only [Nat.add_sub_cancel]
    rw [List.getD_eq_getElem?_getD, List.getElem?_eq_getElem (by omega)]
    rfl
theorem endsP_set {v : Nat → Int} {C : List (List Nat)} {i : Nat} (hp : endAt v C i < C.length) : (endsP C).set (endAt v C i + 1) i = endsP (rowStep v C i) := by
  unfold endsP rowStep
  rw [if_pos hp, List.set_cons_succ, List.map_set]
  rfl
theorem endsP_app {v : Nat → Int} {C : List (List Nat)} {i : Nat} (hp : endAt v C i = C.length) : endsP C ++ [(i : Int)] = endsP (rowStep v C i) := by
  unfold endsP rowStep
  rw [if_neg (by omega), List.map_append]
  rfl
end Go.Proofs.Ytobgcaemnpkbmaa
