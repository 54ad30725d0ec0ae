/- Kj Kk Kl -/
import Derived.Test.YtobgcaemnpkbmaaMd44
import Derived.Test.YtobgcaemnpkbmaaMd26
import Derived.Test.YtobgcaemnpkbmaaMd39
namespace Go.Proofs.Ytobgcaemnpkbmaa
open Go.RowKit
def keyCells (ks : List Int) : List Value := [.int .i64 0, .string ⟨#[117, 108]⟩, .int .i64 0, .slice none 0 0, .string ⟨#[]⟩] ++ ks.flatMap fun k => [.int .i64 1, .string ⟨#[108, 105]⟩, .int .i64 k, .slice none 0 0, .string ⟨#[]⟩]
def IntsIn (w : World) (ao : Option Addr) (n : Nat) (l : Nat → Int) : Prop := 0 < n → ∃ b o, ao = some ⟨b, o, none⟩ ∧ b < w.heap.size ∧ ∀ j, j < n → w.cell? ⟨b, o + j, none⟩ = some (.int .i64 (l j)) ∧ I64 (l j)
theorem keyCells_length (ks : List Int) : (keyCells ks).length = (ks.length + 1) * 5 := by
  unfold keyCells
  have : ∀ l : List Int, (l.flatMap fun k => ([.int .i64 1, .string ⟨#[108, 105]⟩, .int .i64 k, .slice none 0 0, .string ⟨#[]⟩] : List Value)).length = l.length * 5 := fun l => by
    induction l with
    | nil => rfl
    | cons a l ih => rw [List.flatMap_cons, List.length_append, ih, List.length_cons]; show 5 + l.length * 5 = (l.length + 1) * 5; omega
  rw [List.length_append, this]
  show 5 + _ = _
  omega
theorem keyCells_snoc (ks : List Int) (k : Int) : keyCells (ks ++ [k]) = keyCells ks ++ [.int .i64 1, .string ⟨#[108, 105]⟩, .int .i64 k, .slice none 0 0, .string ⟨#[]⟩] := by
  unfold keyCells
  rw [List.flatMap_append, ← List.append_assoc]
  simp
theorem keyCells_key : ∀ (ks : List Int) (i : Nat), i < ks.length → (keyCells ks)[(i + 1) * 5 + 2]? = some (.int .i64 (ks.getD i 0)) := by
  intro ks
  unfold keyCells
  intro i hi
  rw [List.getElem?_append_right (by show 5 ≤ _; omega)]
  show (ks.flatMap _)[(i + 1) * 5 + 2 - 5]? = _
  rw [show (i + 1) * 5 + 2 - 5 = i * 5 + 2 by omega]
  induction ks generalizing i with
  | nil => simp at hi
  | cons a ks ih =>
    rw [List.flatMap_cons]
    cases i with
    | zero => rfl
    | succ i =>
      rw [List.getElem?_append_right (by show 5 ≤ _; omega)]
      show (ks.flatMap _)[(i + 1) * 5 + 2 - 5]? = _
      rw [show (i + 1) * 5 + 2 - 5 = i * 5 + 2 by omega, ih i (by simpa using hi)]
      rfl
set_option maxHeartbeats 2000000 in
set_option maxRecDepth 100000 in
theorem keyed_any (ao : Option Addr) (n c : Nat) (l : Nat → Int) (w : World) (hn : n ≤ 9223372036854775807) (h : IntsIn w ao n l) :
    Calls Try.prog 21 #[.slice ao n c] w fun e w' => ∃ q, e = .returned q ∧ w'.ownsRow w.heap.size 28 5 q ((keysTo l (min n 60)).length + 1) (keyCells (keysTo l (min n 60))) ∧ Below w.heap.size w w' := by
  have H := hide h
  clear h
  obtain ⟨i0, hi, hz0, hz1, hz2⟩ := info_parts nodeInfo'
  go_enter Try.func21, Try.ntmps21
  go_wp2_with fail
  have hr0 : (w.alloc (.cells #[.int .i64 0, .string ⟨#[117, 108]⟩, .int .i64 0, .slice none 0 0, .string ⟨#[]⟩] 28)).ownsRow w.heap.size 28 5 (.slice (some ⟨w.heap.size, 0, none⟩) 1 1) 1 (keyCells []) := by
    refine ⟨rfl, .inr ⟨w.heap.size, 1, _, rfl, Nat.le_refl _, by show (w.heap.push _)[w.heap.size]? = _; simp; rfl, Nat.le_refl _, by decide, rfl, rfl⟩⟩
  have HR0 := hide hr0
  have HB0 := hide ((Below.refl w.heap.size w).alloc (Nat.le_refl _) (.cells #[.int .i64 0, .string ⟨#[117, 108]⟩, .int .i64 0, .slice none 0 0, .string ⟨#[]⟩] 28))
  clear hr0
  generalize w.alloc (.cells #[.int .i64 0, .string ⟨#[117, 108]⟩, .int .i64 0, .slice none 0 0, .string ⟨#[]⟩] 28) = w0 at HR0 HB0 ⊢
  go_loopw [3, 4, 5, 6, 7] (fun o i _ _ _ wr => ∃ (t : Nat) (q : Value), t ≤ min n 60 ∧ i = .int .i64 (t : Int) ∧ q = o ∧ Hid (wr.ownsRow w.heap.size 28 5 q ((keysTo l t).length + 1) (keyCells (keysTo l t))) ∧ Hid (Below w.heap.size w wr)) (fun _ i _ _ _ _ => min n 60 - (intOf i).toNat)
  case atStart => exact ⟨0, _, Nat.zero_le _, rfl, rfl, HR0, HB0⟩
  case round =>
    obtain ⟨t, q, ht, rfl, rfl, HR, HB⟩ := hrel
    clear HR0 HB0
    by_cases hlt : t < min n 60
    · obtain ⟨b, o, rfl, lb, hc⟩ := H.out (by omega)
      obtain ⟨hc1, hc2⟩ := hc t (by omega)
      have xt := (HB.out.cell (p := ⟨b, o + t, none⟩) lb).trans hc1
      have lbr := Nat.lt_of_lt_of_le lb HB.out.size
      have hp := pickK_lt (l t) (n := 40) (by omega)
      have i1 : (0 : Int) ≤ (t : Int) := by omega
      have i2 : (t : Int) < (n : Int) := by omega
      have i3 : (t : Int) < 60 := by omega
      obtain ⟨ga, gc, rfl⟩ := own_shape HR.out
      go_wp2_with (first | (go_at_call 22; refine (keepPick_any (l t) 40 _ (by omega) (by omega) hc2.1 hc2.2).mono ?_; rintro e w1 ⟨rfl, rfl⟩))
      have hk60 := (keysTo_ok l t).2
      generalize hks : keysTo l t = ks at *
      generalize hkey : (1 : Int) + (pickK (l t) 40 : Int) = key at *
      obtain ⟨g, rfl⟩ : ∃ g, ga = some ⟨g, 0, none⟩ := by
        rcases HR.out.2 with ⟨e, e0⟩ | ⟨g, cap, cur, e, _⟩
        · omega
        · simp at e; exact ⟨g, e.1⟩
      go_loopw [6, 7] (fun th jv wz => ∃ j : Nat, 1 ≤ j ∧ j ≤ ks.length + 1 ∧ jv = .int .i64 (j : Int) ∧ th = .bool ((ks.take (j - 1)).contains key) ∧ wz = w1) (fun _ jv _ => ks.length + 1 - (intOf jv).toNat)
      case atStart => exact ⟨1, Nat.le_refl _, by omega, rfl, rfl, rfl⟩
      case round =>
        obtain ⟨j, hj1, hj2, rfl, rfl, rfl⟩ := hrel
        by_cases hjl : j ≤ ks.length
        · have ck : wr.cell? ⟨g, j * 5 + 2, none⟩ = some (.int .i64 (ks.getD (j - 1) 0)) := by
            have hk := keyCells_key ks (j - 1) (by omega)
            rw [show j - 1 + 1 = j by omega] at hk
            rw [HR.out.cellAt (j * 5 + 2) (by omega), hk]
          have lg : g < wr.heap.size := World.block_lt_of_cell? _ _ ck
          have htk : (ks.take j).contains key = ((ks.take (j - 1)).contains key || (ks.getD (j - 1) 0 == key)) := by
            have e : ks.take j = ks.take (j - 1) ++ [ks.getD (j - 1) 0] := by
              have := List.take_succ_eq_append_getElem (l := ks) (i := j - 1) (by omega)
              rw [show j - 1 + 1 = j by omega] at this
              rw [this, List.getD_eq_getElem?_getD, List.getElem?_eq_getElem (by omega)]
              rfl
            rw [e, Bool.eq_iff_iff]
            simp [@eq_comm _ key]
          have j1 : (0 : Int) ≤ (j : Int) := by omega
          have j2 : (j : Int) < (ks.length : Int) + 1 := by omega
          cases hth : (ks.take (j - 1)).contains key with
          | true =>
            go_wp2_with fail
            refine ⟨⟨j + 1, by omega, by omega, by go_num, by rw [Nat.add_sub_cancel, htk, hth]; rfl, trivial⟩, by simp [intOf]; omega⟩
          | false =>
            go_wp2_with fail
            refine ⟨⟨j + 1, by omega, by omega, by go_num, by rw [Nat.add_sub_cancel, htk, hth, List.getD_eq_getElem?_getD]; rfl, trivial⟩, by simp [intOf]; omega⟩
        · have e : j = ks.length + 1 := by omega
          subst e
          rw [Nat.add_sub_cancel, List.take_length]
          cases hth : ks.contains key with
          | true =>
            have e : keysTo l (t + 1) = ks := by rw [keysTo, hks]; unfold keyStep; rw [hkey, hth, if_pos rfl]
            go_wp2_with fail
            refine ⟨⟨t + 1, _, by omega, by go_num, rfl, hide (by rw [e]; exact HR.out), HB⟩, by simp [intOf]; omega⟩
          | false =>
            have e : keysTo l (t + 1) = ks ++ [key] := by rw [keysTo, hks]; unfold keyStep; rw [hkey, hth, if_neg (by simp)]
            have hsz := HB.out.size
            go_wp2_with ((at_builtin; refine wpList_app _ rfl (.tmp 44) (.tmp 47) 22 rfl w.heap.size 28 i0 _ 5 72 Try.underlying22 hi hz0 hz1 hz2 rfl (.slice (some ⟨g, 0, none⟩) (ks.length + 1) gc) (ks.length + 1) _ rfl (HR.out.alloc _) (some ⟨wr.heap.size, 0, none⟩) 1 1 [.int .i64 1, .string ⟨#[108, 105]⟩, .int .i64 key, .slice none 0 0, .string ⟨#[]⟩] rfl (by simp) rfl (cells_new _ _ _) (by simp [Value.oneCell']) (by omega) (by omega) (by simp; omega) ?_; intro v5 w5 ho5 hg5 _))
            refine ⟨⟨t + 1, v5, by omega, by go_num, rfl, hide (by rw [e, List.length_append, keyCells_snoc]; exact ho5.out), hide ((HB.out.alloc hsz _).grown hg5.out.by (by simp; omega) (fun b e => (HR.out.lt b e).1))⟩, by simp [intOf]; omega⟩
    · have e : t = min n 60 := by omega
      by_cases hn6 : n ≤ 60
      · have i4 : ¬ (t : Int) < (n : Int) := by omega
        have HR' := HR.out
        rw [e, Nat.min_eq_left hn6] at HR'
        have HR1 := hide HR'
        clear HR'
        go_wp2_with fail
        go_ret
        exact ⟨q, rfl, HR1.out, HB.out⟩
      · have i4 : (t : Int) < (n : Int) := by omega
        have i5 : ¬ (t : Int) < 60 := by omega
        have HR' := HR.out
        rw [e] at HR'
        have HR1 := hide HR'
        clear HR'
        go_wp2_with fail
        go_ret
        exact ⟨q, rfl, HR1.out, HB.out⟩
end Go.Proofs.Ytobgcaemnpkbmaa
namespace Go.Proofs.Ytobgcaemnpkbmaa
open Go.RowKit
def posK (ka : List Int) (k : Int) : Int := if k ∈ ka then (ka.idxOf k : Int) else -1
theorem posK_at {ka : List Int} (h : ka.Nodup) {p : Nat} (hp : p < ka.length) : posK ka (ka.getD p 0) = (p : Int) := by
  have hm : ka.getD p 0 ∈ ka := getD_mem hp
  unfold posK
  rw [if_pos hm]
  have h1 : ka.idxOf (ka.getD p 0) < ka.length := List.idxOf_lt_length_iff.2 hm
  have h2 : ka.getD (ka.idxOf (ka.getD p 0)) 0 = ka.getD p 0 := by
    rw [List.getD_eq_getElem?_getD, List.getElem?_eq_getElem h1]
    exact List.getElem_idxOf h1
  rw [nodup_inj h h1 hp h2]
theorem posK_none {ka : List Int} {k : Int} (h : k ∉ ka) : posK ka k = -1 := by unfold posK; rw [if_neg h]
theorem mem_getD {ka : List Int} {k : Int} (h : k ∈ ka) : ∃ p, p < ka.length ∧ k = ka.getD p 0 := by
  obtain ⟨p, hp, e⟩ := List.getElem_of_mem h
  exact ⟨p, hp, by rw [List.getD_eq_getElem?_getD, List.getElem?_eq_getElem hp, ← e]; rfl⟩
theorem pr_keys {R : List RN} {last : Int} {ka kb : List Int} (h : IsTree R last (kTree ka) (ka.length + 1)) (ha : ka.Nodup) (hb : kb.Nodup) : pairsOf (niOf R) (kTree kb) (niOf R 1).kids 0 ((List.range kb.length).map fun j : Nat => (j + 1, j + 2)) = kb.map (posK ka) := by
  obtain ⟨k1, k2⟩ := flat_kid h (kTree_flat ka)
  rw [Nat.add_sub_cancel] at k1 k2
  have hl : (pairsOf (niOf R) (kTree kb) (niOf R 1).kids 0 ((List.range kb.length).map fun j : Nat => (j + 1, j + 2))).length = kb.length := by rw [pairsOf_length]; simp
  refine List.ext_getElem (by rw [hl]; simp) fun j h1 h2 => ?_
  have hj : j < kb.length := by omega
  have hA : ∀ p, p < ka.length → (((niOf R ((niOf R 1).kids.getD p 0)).tag, (niOf R ((niOf R 1).kids.getD p 0)).key) : ByteArray × Int) = (⟨#[108, 105]⟩, ka.getD p 0) := fun p hp => by
    obtain ⟨_, _, _, g4, g5⟩ := k2 p hp
    rw [g4, g5, kTree_succ]
  have hB : ∀ q, q < kb.length → (((kTree kb (0 + (((List.range kb.length).map fun j : Nat => (j + 1, j + 2)).getD q (0, 0)).1)).t, (kTree kb (0 + (((List.range kb.length).map fun j : Nat => (j + 1, j + 2)).getD q (0, 0)).1)).k) : ByteArray × Int) = (⟨#[108, 105]⟩, kb.getD q 0) := fun q hq => by
    have e : ((List.range kb.length).map fun j : Nat => (j + 1, j + 2)).getD q (0, 0) = (q + 1, q + 2) := by
      rw [List.getD_eq_getElem?_getD, List.getElem?_map, List.getElem?_range hq]
      rfl
    rw [e]
    simp only [Nat.zero_add]
    rw [kTree_succ]
  have hg := pairs_get (niOf R) (kTree kb) (niOf R 1).kids 0 ((List.range kb.length).map fun j : Nat => (j + 1, j + 2)) (j := j) (by simpa using hj)
  have e1 : (pairsOf (niOf R) (kTree kb) (niOf R 1).kids 0 ((List.range kb.length).map fun j : Nat => (j + 1, j + 2)))[j] = (pairsOf (niOf R) (kTree kb) (niOf R 1).kids 0 ((List.range kb.length).map fun j : Nat => (j + 1, j + 2))).getD j 0 := by rw [List.getD_eq_getElem?_getD, List.getElem?_eq_getElem h1]; rfl
  rw [e1, hg, k1, List.getElem_map]
  have e2 : kb[j] = kb.getD j 0 := by rw [List.getD_eq_getElem?_getD, List.getElem?_eq_getElem hj]; rfl
  rw [e2]
  by_cases hm : kb.getD j 0 ∈ ka
  · obtain ⟨p, hp, e⟩ := mem_getD hm
    rw [e, posK_at ha hp]
    refine pair_hit (na := ka.length) (nb := kb.length) (fun i i' hi hi' e => ?_) (fun i i' hi hi' e => ?_) hj hp ?_
    · simp only [hA i hi, hA i' hi', Prod.mk.injEq, true_and] at e
      exact nodup_inj ha hi hi' e
    · simp only [hB i hi, hB i' hi', Prod.mk.injEq, true_and] at e
      exact nodup_inj hb hi hi' e
    · simp only [hB j hj, hA p hp, e]
  · rw [posK_none hm]
    refine pair_miss fun p hp e => ?_
    simp only [hB j hj, hA p hp, Prod.mk.injEq, true_and] at e
    rw [e] at hm
    exact hm (getD_mem hp)
def cameK (ka kb : List Int) : Nat := kb.countP fun k => !ka.contains k
theorem new_came (ka kb : List Int) (_ : ka.Nodup) : newN (kb.map (posK ka)) kb.length = cameK ka kb := by
  unfold newN cameK
  rw [List.take_of_length_le (by simp), List.countP_map]
  refine List.countP_congr fun k _ => ?_
  show (posK ka k == -1) = true ↔ _
  by_cases hm : k ∈ ka
  · have e : posK ka k = (ka.idxOf k : Int) := by unfold posK; rw [if_pos hm]
    rw [e]
    simp [hm]
  · rw [posK_none hm]
    simp [hm]
theorem both_len {ka kb : List Int} (ha : ka.Nodup) (hb : kb.Nodup) : (ka.filter fun k => kb.contains k).length = (kb.filter fun k => ka.contains k).length := by
  have h1 := nodup_small (ka.filter fun k => kb.contains k) (kb.filter fun k => ka.contains k) (ha.filter _) fun a h => by
    simp only [List.mem_filter, List.contains_iff_mem] at h ⊢
    exact ⟨h.2, h.1⟩
  have h2 := nodup_small (kb.filter fun k => ka.contains k) (ka.filter fun k => kb.contains k) (hb.filter _) fun a h => by
    simp only [List.mem_filter, List.contains_iff_mem] at h ⊢
    exact ⟨h.2, h.1⟩
  omega
theorem came_went {ka kb : List Int} (ha : ka.Nodup) (hb : kb.Nodup) : ((List.range ka.length).countP fun i : Nat => !(kb.map (posK ka)).contains (i : Int)) + kb.length = ka.length + cameK ka kb := by
  have e1 : ((List.range ka.length).countP fun i : Nat => !(kb.map (posK ka)).contains (i : Int)) = ka.countP fun k => !kb.contains k := by
    have e : ka = (List.range ka.length).map fun i => ka.getD i 0 := by
      refine List.ext_getElem (by simp) fun i h1 h2 => ?_
      rw [List.getElem_map, List.getElem_range, List.getD_eq_getElem?_getD, List.getElem?_eq_getElem h1]
      rfl
    rw [show ka.countP (fun k => !kb.contains k) = ((List.range ka.length).map fun i => ka.getD i 0).countP (fun k => !kb.contains k) by rw [← e], List.countP_map]
    refine List.countP_congr fun i hi => ?_
    have hi := List.mem_range.1 hi
    show (!(kb.map (posK ka)).contains (i : Int)) = true ↔ (!kb.contains (ka.getD i 0)) = true
    have h : (kb.map (posK ka)).contains (i : Int) = kb.contains (ka.getD i 0) := by
      rw [Bool.eq_iff_iff, List.contains_iff_mem, List.contains_iff_mem, List.mem_map]
      refine ⟨fun ⟨k, h1, h2⟩ => ?_, fun h1 => ⟨_, h1, posK_at ha hi⟩⟩
      by_cases hm : k ∈ ka
      · obtain ⟨p, hp, e⟩ := mem_getD hm
        rw [e, posK_at ha hp] at h2
        have e2 : p = i := by omega
        rw [← e2, ← e]
        exact h1
      · rw [posK_none hm] at h2
        omega
    rw [h]
  have h1 := List.length_eq_countP_add_countP (fun k => kb.contains k) (l := ka)
  have h2 := List.length_eq_countP_add_countP (fun k => ka.contains k) (l := kb)
  have h3 := both_len ha hb
  rw [← List.countP_eq_length_filter, ← List.countP_eq_length_filter] at h3
  rw [e1]
  unfold cameK
  have e2 : ∀ (x y : List Int), x.countP (fun k => decide ¬ (y.contains k) = true) = x.countP fun k => !y.contains k := fun x y => List.countP_congr fun k _ => by simp
  rw [e2] at h1 h2
  omega
theorem stay_few (ka kb : List Int) (ha : ka.Nodup) : (stayOf (kb.map (posK ka))).length + cameK ka kb ≤ kb.length := by
  have h1 := (stay_rise (kb.map (posK ka))).2
  have h2 : (stayOf (kb.map (posK ka))).countP (fun p => !(p == -1)) = (stayOf (kb.map (posK ka))).length := List.countP_eq_length.2 fun v hv => by
    have := (stayOf_range hv).2
    simpa using this
  have h3 := h1.countP_le (p := fun p => !(p == -1))
  have h4 := List.length_eq_countP_add_countP (fun p : Int => p == -1) (l := kb.map (posK ka))
  have h5 := new_came ka kb ha
  unfold newN at h5
  rw [List.take_of_length_le (by simp)] at h5
  have e2 : (kb.map (posK ka)).countP (fun k => decide ¬ (k == -1) = true) = (kb.map (posK ka)).countP fun k => !(k == -1) := List.countP_congr fun k _ => by simp
  rw [e2] at h4
  rw [List.length_map] at h4
  omega
theorem moved_first {R : List RN} {last : Int} {ka kb : List Int} (h : IsTree R last (kTree ka) (ka.length + 1)) (ha : ka.Nodup) (hb : kb.Nodup) : (diffP R last (kTree kb) (kb.length + 1)).length + kb.length = ka.length + 2 * cameK ka kb + kindN 2 (diffP R last (kTree kb) (kb.length + 1)) ∧ cameK ka kb ≤ kindN 2 (diffP R last (kTree kb) (kb.length + 1)) := by
  obtain ⟨k1, _⟩ := flat_kid h (kTree_flat ka)
  rw [Nat.add_sub_cancel] at k1
  obtain ⟨_, h2, h3⟩ := flat_diff h (kTree_flat ka) (kTree_flat kb) rfl (pr_keys h ha hb)
  rw [k1, new_came ka kb ha] at h2
  have h4 := came_went ha hb
  have h5 := stay_few ka kb ha
  omega
end Go.Proofs.Ytobgcaemnpkbmaa
namespace Go.Proofs.Ytobgcaemnpkbmaa
open Go.RowKit
def kMove (kb : List Int) (i k : Nat) : List Int := (kb.eraseIdx i).take k ++ ([kb.getD i 0] ++ (kb.eraseIdx i).drop k)
theorem getD_lt {l : List Int} {i : Nat} (h : i < l.length) : l.getD i 0 = l[i] := by rw [List.getD_eq_getElem?_getD, List.getElem?_eq_getElem h]; rfl
theorem kMove_length {kb : List Int} {i k : Nat} (hi : i < kb.length) (hk : k < kb.length) : (kMove kb i k).length = kb.length := by
  unfold kMove
  rw [List.length_append, List.length_append, List.length_take, List.length_drop, List.length_eraseIdx_of_lt hi]
  simp only [List.length_cons, List.length_nil]
  omega
def fromK (i k j : Nat) : Nat := if j = k then i else if j < k then (if j < i then j else j + 1) else (if j - 1 < i then j - 1 else j)
theorem kMove_at {kb : List Int} {i k : Nat} (hi : i < kb.length) (hk : k < kb.length) {j : Nat} (hj : j < kb.length) : (kMove kb i k).getD j 0 = kb.getD (fromK i k j) 0 ∧ fromK i k j < kb.length := by
  have hle : (kb.eraseIdx i).length = kb.length - 1 := List.length_eraseIdx_of_lt hi
  have htl : ((kb.eraseIdx i).take k).length = k := by rw [List.length_take]; omega
  have her : ∀ q, q < kb.length - 1 → (kb.eraseIdx i)[q]? = some (kb.getD (if q < i then q else q + 1) 0) := fun q hq => by
    rw [List.getElem?_eraseIdx]
    split
    · rw [getD_lt (by omega), List.getElem?_eq_getElem (by omega)]
    · rw [getD_lt (by omega), List.getElem?_eq_getElem (by omega)]
  unfold fromK
  by_cases h1 : j = k
  · rw [if_pos h1]
    refine ⟨?_, hi⟩
    rw [List.getD_eq_getElem?_getD]
    unfold kMove
    rw [List.getElem?_append_right (by omega), htl, h1, Nat.sub_self]
    rfl
  · rw [if_neg h1]
    by_cases h2 : j < k
    · rw [if_pos h2]
      refine ⟨?_, by split <;> omega⟩
      rw [List.getD_eq_getElem?_getD]
      unfold kMove
      rw [List.getElem?_append_left (by omega), List.getElem?_take_of_lt h2, her j (by omega)]
      rfl
    · rw [if_neg h2]
      refine ⟨?_, by split <;> omega⟩
      rw [List.getD_eq_getElem?_getD]
      unfold kMove
      rw [List.getElem?_append_right (by omega), htl, List.getElem?_append_right (by show 1 ≤ _; omega), List.getElem?_drop]
      show ((kb.eraseIdx i)[k + (j - k - 1)]?).getD 0 = _
      rw [show k + (j - k - 1) = j - 1 by omega, her (j - 1) (by omega), show j - 1 + 1 = j by omega]
      rfl
theorem kMove_ok {kb : List Int} (h : KeysOk kb) {i k : Nat} (hi : i < kb.length) (hk : k < kb.length) : KeysOk (kMove kb i k) := by
  have hl := kMove_length hi hk
  refine ⟨?_, fun v hv => ?_⟩
  · unfold List.Nodup
    rw [List.pairwise_iff_getElem]
    intro p q hp hq hpq e
    obtain ⟨p1, p2⟩ := kMove_at hi hk (j := p) (by omega)
    obtain ⟨q1, q2⟩ := kMove_at hi hk (j := q) (by omega)
    rw [← getD_lt hp, ← getD_lt hq, p1, q1] at e
    have := nodup_inj h.nodup p2 q2 e
    unfold fromK at this
    repeat' split at this
    all_goals omega
  · obtain ⟨p, hp, rfl⟩ := mem_getD hv
    obtain ⟨p1, p2⟩ := kMove_at hi hk (j := p) (by omega)
    rw [p1]
    exact h.low _ (getD_mem p2)
theorem kMove_same {kb : List Int} {i : Nat} (hi : i < kb.length) : kMove kb i i = kb := by
  have hl := kMove_length hi hi
  refine List.ext_getElem hl fun j h1 h2 => ?_
  obtain ⟨p1, p2⟩ := kMove_at hi hi (j := j) h2
  rw [← getD_lt h1, ← getD_lt h2, p1]
  congr 1
  unfold fromK
  repeat' split
  all_goals omega
theorem rise_all {pr : List Int} {n : Nat} (hl : pr.length = n) (hp : pr.Pairwise fun a b => a < b) (hr : ∀ v, v ∈ pr → 0 ≤ v ∧ v < (n : Int)) : ∀ j, j < n → pr.getD j 0 = (j : Int) := by
  have h1 : ∀ j, j < n → (j : Int) ≤ pr.getD j 0 := by
    intro j
    induction j with
    | zero => intro hj; exact (hr _ (getD_mem (by omega))).1
    | succ j ih =>
      intro hj
      have := ih (by omega)
      have h2 := (List.pairwise_iff_getElem.1 hp) j (j + 1) (by omega) (by omega) (by omega)
      rw [getD_lt (by omega)] at this
      rw [getD_lt (by omega)]
      omega
  have h2 : ∀ d j, j + d + 1 = n → pr.getD j 0 ≤ (j : Int) := by
    intro d
    induction d with
    | zero =>
      intro j hj
      have := (hr _ (getD_mem (show j < pr.length by omega))).2
      omega
    | succ d ih =>
      intro j hj
      have := ih (j + 1) (by omega)
      have h2 := (List.pairwise_iff_getElem.1 hp) j (j + 1) (by omega) (by omega) (by omega)
      rw [getD_lt (by omega)] at this
      rw [getD_lt (by omega)]
      omega
  intro j hj
  have := h1 j hj
  have := h2 (n - 1 - j) j (by omega)
  omega
theorem keep_all {pr : List Int} (h : ∀ v, v ∈ pr → v ≠ -1) : pr.filter keepB = pr := List.filter_eq_self.2 fun v hv => by
  have := h v hv
  unfold keepB noneB
  simpa using this
theorem moved_second {R : List RN} {last : Int} {kb : List Int} (h : IsTree R last (kTree kb) (kb.length + 1)) (hR : R.length = kb.length + 1) (h60 : kb.length ≤ 60) (hb : KeysOk kb) {i k : Nat} (hi : i < kb.length) (hk : k < kb.length) : (diffP R last (kTree (kMove kb i k)) (kb.length + 1)).length = if i = k then 0 else 1 := by
  by_cases hik : i = k
  · subst hik
    rw [kMove_same hi, (diff_same h hR (by omega)).2, if_pos rfl]
    rfl
  · rw [if_neg hik]
    have hl := kMove_length hi hk
    have hok := kMove_ok hb hi hk
    obtain ⟨k1, _⟩ := flat_kid h (kTree_flat kb)
    rw [Nat.add_sub_cancel] at k1
    obtain ⟨_, h2, _⟩ := flat_diff h (kTree_flat kb) (kTree_flat (kMove kb i k)) rfl (pr_keys h hb.nodup hok.nodup)
    have h3 := new_came kb (kMove kb i k) hb.nodup
    have h4 := came_went hb.nodup hok.nodup
    rw [hl] at h2 h3 h4
    rw [k1, h3] at h2
    have hpg : ∀ j, j < kb.length → ((kMove kb i k).map (posK kb)).getD j 0 = (fromK i k j : Int) := fun j hj => by
      obtain ⟨p1, p2⟩ := kMove_at hi hk hj
      rw [List.getD_eq_getElem?_getD, List.getElem?_map, List.getElem?_eq_getElem (by omega)]
      show posK kb (kMove kb i k)[j] = _
      rw [← getD_lt, p1, posK_at hb.nodup p2]
    have hpl : ((kMove kb i k).map (posK kb)).length = kb.length := by rw [List.length_map, hl]
    have hz : cameK kb (kMove kb i k) = 0 := by
      unfold cameK
      rw [List.countP_eq_zero]
      intro v hv
      obtain ⟨p, hp, rfl⟩ := mem_getD hv
      obtain ⟨p1, p2⟩ := kMove_at hi hk (j := p) (by omega)
      rw [p1]
      simp only [Bool.not_eq_true', List.contains_iff_mem, Bool.not_eq_false]
      exact getD_mem p2
    generalize hpr : (kMove kb i k).map (posK kb) = pr at *
    have hrng : ∀ v, v ∈ pr → 0 ≤ v ∧ v < (kb.length : Int) := fun v hv => by
      obtain ⟨p, hp, rfl⟩ := mem_getD hv
      have p2 := (kMove_at hi hk (j := p) (by omega)).2
      rw [hpg p (by omega)]
      omega
    have hkeep : pr.filter keepB = pr := keep_all fun v hv => by have := (hrng v hv).1; omega
    have hmost := row_most (fun j => pr.getD j 0) pr.length ((List.range kb.length).erase k) (by
      have hp0 : ((List.range kb.length).erase k).Pairwise fun a b => a < b := List.Pairwise.sublist List.erase_sublist List.pairwise_lt_range
      refine List.Pairwise.imp_of_mem (fun {x y} hx hy hxy => ⟨hxy, ?_⟩) hp0
      rw [List.nodup_range.mem_erase_iff, List.mem_range] at hx hy
      show pr.getD x 0 < pr.getD y 0
      rw [hpg x hx.2, hpg y hy.2]
      unfold fromK
      rw [if_neg hx.1, if_neg hy.1]
      repeat' split
      all_goals omega) fun x hx => by
        rw [List.nodup_range.mem_erase_iff, List.mem_range] at hx
        omega
    have hlen : ((List.range kb.length).erase k).length = kb.length - 1 := by rw [List.length_erase_of_mem (List.mem_range.2 hk), List.length_range]
    have hst : (stayOf pr).length = (rowP (fun j => pr.getD j 0) pr.length).length := by unfold stayOf; rw [hkeep]
    have hsub := (stay_rise pr).2
    have hsl := hsub.length_le
    have hne : (stayOf pr).length ≠ kb.length := fun e => by
      have e2 : stayOf pr = pr := hsub.eq_of_length (by omega)
      have hr := (stay_rise pr).1
      rw [e2] at hr
      have := rise_all hpl hr hrng k hk
      rw [hpg k hk] at this
      unfold fromK at this
      rw [if_pos rfl] at this
      omega
    omega
theorem keys_taken {R : List RN} {last : Int} {ka ks : List Int} (h : IsTree R last (kTree ka) (ka.length + 1)) (hR : R.length ≤ 61) (hk : KeysOk ks) (h60 : ks.length ≤ 60) : checkOut (mayB (kTree ks)) (ks.length + 1) = (0, 0) ∧ diffE R (kTree ks) (ks.length + 1) = (0, 0) := by
  have hz : checkOut (mayB (kTree ks)) (ks.length + 1) = (0, 0) := by
    unfold checkOut
    rw [if_neg (by omega)]
    unfold search
    have : (List.range (ks.length + 1)).find? (fun i => !mayB (kTree ks) i) = none := by
      rw [List.find?_eq_none]
      intro i hi
      rw [kTree_may hk i (List.mem_range.1 hi)]
      simp
    rw [this]
  obtain ⟨e1, e2⟩ := h.root
  refine ⟨hz, ?_⟩
  unfold diffE
  rw [hz, if_pos rfl, e1, e2, kTree_zero, kTree_zero]
  simp
  omega
end Go.Proofs.Ytobgcaemnpkbmaa
