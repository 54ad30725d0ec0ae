/- Ff Fo -/
import Derived.Test.YtobgcaemnpkbmaaMd22
import Derived.Test.YtobgcaemnpkbmaaMd03
import Derived.Lib.SliceRun
import Derived.Test.YtobgcaemnpkbmaaMd24
namespace Go.Proofs.Ytobgcaemnpkbmaa
open Go.RowKit
theorem isNone_any (x : Int) (w : World) : Calls Try.prog 82 #[.int .i64 x] w fun e w' => e = .returned (.bool (x == -1)) ∧ w' = w := by
  go_enter Try.func82, Try.ntmps82
  go_wp2_with fail
  go_ret
  exact ⟨rfl, rfl⟩
theorem ints_at {w : World} {B n c : Nat} {ao : Option Addr} {l : List Int} (h : w.ownsRow B 3 1 (.slice ao n c) n (ints l)) {j : Nat} (hj : j < n) : ∃ g, ∃ hl : j < l.length, ao = some ⟨g, 0, none⟩ ∧ w.cell? ⟨g, j, none⟩ = some (.int .i64 l[j]) ∧ B ≤ g ∧ g < w.heap.size := by
  have hl : l.length = n := by have := h.1; rw [ints_length] at this; omega
  rcases h.2 with ⟨e, e0⟩ | ⟨g, cap, cur, e, hb, hg, _⟩
  · omega
  · simp at e
    obtain ⟨rfl, rfl⟩ := e
    refine ⟨g, by omega, rfl, ?_, hb, (Array.getElem?_eq_some_iff.1 hg).1⟩
    rw [h.cellAt j (by omega)]
    unfold ints
    rw [List.getElem?_map, List.getElem?_eq_getElem (by omega)]
    rfl
def idxP (p : Int → Bool) (l : List Int) : Int := match l.findIdx? p with | some k => (k : Int) | none => -1
theorem idxP_hit {p : Int → Bool} {l : List Int} {k : Nat} (hk : k < l.length) (h : p l[k] = true) (hall : ∀ j, (hj : j < l.length) → j < k → p l[j] = false) : idxP p l = k := by
  unfold idxP
  have : l.findIdx? p = some k := by
    rw [List.findIdx?_eq_some_iff_getElem]
    exact ⟨hk, h, fun j hj => by simpa using hall j (by omega) hj⟩
  rw [this]
theorem idxP_none {p : Int → Bool} {l : List Int} (hall : ∀ j, (hj : j < l.length) → p l[j] = false) : idxP p l = -1 := by
  unfold idxP
  have : l.findIdx? p = none := by
    rw [List.findIdx?_eq_none_iff]
    intro x hx
    obtain ⟨j, hj, rfl⟩ := List.getElem_of_mem hx
    exact hall j hj
  rw [this]
set_option maxHeartbeats 400000 in
theorem indexI_any (B : Nat) (ao : Option Addr) (n c : Nat) (l : List Int) (x : Int) (w : World) (h : w.ownsRow B 3 1 (.slice ao n c) n (ints l)) (hn : n ≤ 1000000) :
    Calls Try.prog 101 #[.slice ao n c, .int .i64 x] w fun e w' => e = .returned (.int .i64 (idxP (fun y => x == y) l)) ∧ w' = w := by
  have H := hide h
  have hl : l.length = n := by have := h.1; rw [ints_length] at this; omega
  clear h
  go_enter Try.func101, Try.ntmps101
  go_wp2_with fail
  go_loopw [5, 8] (fun _ i wr => ∃ j : Nat, j ≤ n ∧ i = .int .i64 j ∧ wr = w ∧ Hid (∀ t, (ht : t < l.length) → t < j → (x == l[t]) = false)) (fun _ i _ => n - (intOf i).toNat)
  case atStart => exact ⟨0, Nat.zero_le _, rfl, rfl, hide fun t _ h => absurd h (Nat.not_lt_zero _)⟩
  case round =>
    obtain ⟨j, hj, rfl, rfl, hall⟩ := hrel
    by_cases hlt : j < n
    · obtain ⟨g, hjl, rfl, cj, _, _⟩ := ints_at H.out hlt
      have hji : (j : Int) < (n : Int) := by omega
      by_cases e : (x == l[j]) = true
      · have HI := hide (idxP_hit (p := fun y => x == y) hjl e (fun t ht h => hall.out t ht h))
        go_wp2_with fail
        go_ret
        exact ⟨by rw [HI.out]; rfl, rfl⟩
      · have e : (x == l[j]) = false := by simpa using e
        have HA : Hid (∀ t, (ht : t < l.length) → t < j + 1 → (x == l[t]) = false) := hide fun t ht h => by
          by_cases e2 : t = j
          · subst e2; exact e
          · exact hall.out t ht (by omega)
        go_wp2_with fail
        go_roundw
        case rel => exact ⟨j + 1, by omega, by go_num, by trivial, HA⟩
        case measure => simp [intOf]; omega
    · have hji : ¬ (j : Int) < (n : Int) := by omega
      have HI := hide (idxP_none (p := fun y => x == y) (l := l) (fun t ht => hall.out t ht (by omega)))
      go_wp2_with fail
      go_ret
      exact ⟨by rw [HI.out]; rfl, rfl⟩
theorem idxP_contains (x : Int) (l : List Int) : decide (0 ≤ idxP (fun y => x == y) l) = l.contains x := by
  unfold idxP
  cases h : l.findIdx? (fun y => x == y) with
  | none =>
    rw [List.findIdx?_eq_none_iff] at h
    have : l.contains x = false := by
      cases hc : l.contains x with
      | false => rfl
      | true =>
        have hm : x ∈ l := by simpa using hc
        have := h x hm
        simp at this
    rw [this]
    rfl
  | some k =>
    rw [List.findIdx?_eq_some_iff_getElem] at h
    obtain ⟨hk, e, _⟩ := h
    have hm : x ∈ l := by
      have e : x = l[k] := by simpa using e
      rw [e]; exact List.getElem_mem hk
    have : l.contains x = true := by simpa using hm
    rw [this]
    simp
set_option maxHeartbeats 400000 in
theorem containsI_any (B : Nat) (ao : Option Addr) (n c : Nat) (l : List Int) (x : Int) (w : World) (h : w.ownsRow B 3 1 (.slice ao n c) n (ints l)) (hn : n ≤ 1000000) :
    Calls Try.prog 95 #[.slice ao n c, .int .i64 x] w fun e w' => e = .returned (.bool (l.contains x)) ∧ w' = w := by
  have HC := hide (indexI_any B ao n c l x w h hn)
  have HE := hide (idxP_contains x l)
  clear h
  generalize idxP (fun y => x == y) l = r at *
  go_enter Try.func95, Try.ntmps95
  go_wp2_with (first | (go_at_call 101; refine (unhide HC).mono ?_; rintro e w1 ⟨rfl, rfl⟩))
  go_ret
  refine ⟨?_, rfl⟩
  rw [← HE.out]
  simp
def noneB (x : Int) : Bool := x == -1
set_option maxHeartbeats 400000 in
theorem indexFuncI_any (B : Nat) (ao : Option Addr) (n c : Nat) (l : List Int) (w : World) (h : w.ownsRow B 3 1 (.slice ao n c) n (ints l)) (hn : n ≤ 1000000) :
    Calls Try.prog 97 #[.slice ao n c, .func (.func 82) #[] #[]] w fun e w' => e = .returned (.int .i64 (idxP noneB l)) ∧ w' = w := by
  have H := hide h
  have hl : l.length = n := by have := h.1; rw [ints_length] at this; omega
  clear h
  go_enter Try.func97, Try.ntmps97
  go_wp2_with fail
  go_loopw [5, 8] (fun _ i wr => ∃ j : Nat, j ≤ n ∧ i = .int .i64 j ∧ wr = w ∧ Hid (∀ t, (ht : t < l.length) → t < j → noneB l[t] = false)) (fun _ i _ => n - (intOf i).toNat)
  case atStart => exact ⟨0, Nat.zero_le _, rfl, rfl, hide fun t _ h => absurd h (Nat.not_lt_zero _)⟩
  case round =>
    obtain ⟨j, hj, rfl, rfl, hall⟩ := hrel
    by_cases hlt : j < n
    · obtain ⟨g, hjl, rfl, cj, _, _⟩ := ints_at H.out hlt
      have hji : (j : Int) < (n : Int) := by omega
      have HC := hide (isNone_any l[j] wr)
      by_cases e : noneB l[j] = true
      · have HI := hide (idxP_hit (p := noneB) hjl e (fun t ht h => hall.out t ht h))
        have e' : (l[j] == -1) = true := e
        rw [e'] at HC
        go_wp2_with (first | (go_at_call 82; refine (unhide HC).mono ?_; rintro e w1 ⟨rfl, rfl⟩))
        go_ret
        exact ⟨by rw [HI.out]; rfl, rfl⟩
      · have e : noneB l[j] = false := by simpa using e
        have HA : Hid (∀ t, (ht : t < l.length) → t < j + 1 → noneB l[t] = false) := hide fun t ht h => by
          by_cases e2 : t = j
          · subst e2; exact e
          · exact hall.out t ht (by omega)
        have e' : (l[j] == -1) = false := e
        rw [e'] at HC
        go_wp2_with (first | (go_at_call 82; refine (unhide HC).mono ?_; rintro e w1 ⟨rfl, rfl⟩))
        go_roundw
        case rel => exact ⟨j + 1, by omega, by go_num, by trivial, HA⟩
        case measure => simp [intOf]; omega
    · have hji : ¬ (j : Int) < (n : Int) := by omega
      have HI := hide (idxP_none (p := noneB) (l := l) (fun t ht => hall.out t ht (by omega)))
      go_wp2_with fail
      go_ret
      exact ⟨by rw [HI.out]; rfl, rfl⟩
end Go.Proofs.Ytobgcaemnpkbmaa
namespace Go.Proofs.Ytobgcaemnpkbmaa
open Go.RowKit
theorem tell_newp (B WB : Nat) (pv : Value) (P : List Pat) (last : Int) (w : World) (h : WayAt B w WB pv P last) (hB : B ≤ w.heap.size) (hP : P.length ≤ 1000000) (kd id pa bf ky : Int) (tg nm tx : ByteArray) (hx1 : tg.size ≤ 1000000) (hx2 : nm.size ≤ 1000000) (hx3 : tx.size ≤ 1000000) :
    Calls Try.prog 57 #[.pointer (some ⟨WB, 0, none⟩), .slice (some ⟨w.heap.size, 0, none⟩) 1 1] (w.alloc (.cells #[.int .i64 kd, .int .i64 id, .int .i64 pa, .int .i64 bf, .int .i64 ky, .string tg, .string nm, .string tx] 43)) fun e w' => e = .returned (.tuple #[]) ∧ ∃ pv', WayAt B w' WB pv' (P ++ [⟨kd, id, pa, bf, ky, tg, nm, tx⟩]) last ∧ Tells WB pv pv' w w' := by
  have hc := cells_new w #[.int .i64 kd, .int .i64 id, .int .i64 pa, .int .i64 bf, .int .i64 ky, .string tg, .string nm, .string tx] 43 _ rfl
  have hb : Below w.heap.size w (w.alloc (.cells #[.int .i64 kd, .int .i64 id, .int .i64 pa, .int .i64 bf, .int .i64 ky, .string tg, .string nm, .string tx] 43)) := (Below.refl _ _).alloc (Nat.le_refl _) _
  have hsz : w.heap.size < (w.alloc (.cells #[.int .i64 kd, .int .i64 id, .int .i64 pa, .int .i64 bf, .int .i64 ky, .string tg, .string nm, .string tx] 43)).heap.size := by
    show _ < (w.heap.push _).size
    simp
  refine (tell_one B WB pv P last _ (h.below hb) (by omega) hP ⟨kd, id, pa, bf, ky, tg, nm, tx⟩ (by show tg.size ≤ _; omega) (by show nm.size ≤ _; omega) (by show tx.size ≤ _; omega) w.heap.size 0 1 hsz ?_).mono ?_
  · intro r hr
    have : ∀ r, r < 8 → (#[.int .i64 kd, .int .i64 id, .int .i64 pa, .int .i64 bf, .int .i64 ky, .string tg, .string nm, .string tx] : Array Value).toList[r]? = some (patCell ⟨kd, id, pa, bf, ky, tg, nm, tx⟩ r) := by
      intro r hr
      match r, hr with
      | 0, _ => rfl
      | 1, _ => rfl
      | 2, _ => rfl
      | 3, _ => rfl
      | 4, _ => rfl
      | 5, _ => rfl
      | 6, _ => rfl
      | 7, _ => rfl
    have := hc r _ (this r hr)
    rw [addr_add'] at this
    exact this
  · rintro e w' ⟨rfl, pv', h1, h2, h3⟩
    exact ⟨rfl, pv', h1, (Tells.of_below hb).trans ⟨h3, h2⟩⟩
structure RowV (WB : Nat) (pv : Value) (w : World) (C : Nat) (v : Value) (n : Nat) (l : List Int) : Prop where
  row : w.ownsRow C 3 1 v n (ints l)
  free : ∀ b, v.ownBlock = some b → Free WB pv w b
theorem RowV.tells {WB : Nat} {pv pv' : Value} {w w' : World} {C : Nat} {v : Value} {n : Nat} {l : List Int} (h : RowV WB pv w C v n l) (k : Tells WB pv pv' w w') : RowV WB pv' w' C v n l :=
  ⟨own_heap h.row fun b e => (h.free b e).block k, fun b e => (h.free b e).tells k⟩
def KidsV (WB : Nat) (pv : Value) (w : World) (ko : Option Addr) (n : Nat) (I : Nat → Int) : Prop :=
  ∀ j, j < n → ∃ g P, ko = some ⟨g, 0, none⟩ ∧ Free WB pv w g ∧ Free WB pv w P ∧ w.cell? ⟨g, j, none⟩ = some (.pointer (some ⟨P, 0, none⟩)) ∧ w.cell? ⟨P, 0, none⟩ = some (.int .i64 (I j))
theorem KidsV.tells {WB : Nat} {pv pv' : Value} {w w' : World} {ko : Option Addr} {n : Nat} {I : Nat → Int} (h : KidsV WB pv w ko n I) (k : Tells WB pv pv' w w') : KidsV WB pv' w' ko n I := by
  intro j hj
  obtain ⟨g, P, e, f1, f2, c1, c2⟩ := h j hj
  exact ⟨g, P, e, f1.tells k, f2.tells k, (f1.cell k).trans c1, (f2.cell k).trans c2⟩
def remsP (I : Nat → Int) (l : List Int) : Nat → List Pat
  | 0 => []
  | k + 1 => remsP I l k ++ bif l.contains (k : Int) then [] else [⟨3, I k, 0, 0, 0, ⟨#[]⟩, ⟨#[]⟩, ⟨#[]⟩⟩]
theorem remsP_yes {I : Nat → Int} {l : List Int} {k : Nat} (h : l.contains (k : Int) = true) : remsP I l (k + 1) = remsP I l k := by simp only [remsP, h, cond_true, List.append_nil]
theorem remsP_no {I : Nat → Int} {l : List Int} {k : Nat} (h : l.contains (k : Int) = false) : remsP I l (k + 1) = remsP I l k ++ [⟨3, I k, 0, 0, 0, ⟨#[]⟩, ⟨#[]⟩, ⟨#[]⟩⟩] := by simp only [remsP, h, cond_false]
theorem remsP_length (I : Nat → Int) (l : List Int) : ∀ k, (remsP I l k).length ≤ k
  | 0 => Nat.le_refl _
  | k + 1 => by
    have := remsP_length I l k
    cases h : l.contains (k : Int) with
    | true => rw [remsP_yes h]; omega
    | false => rw [remsP_no h, List.length_append]; show _ + 1 ≤ _; omega
set_option maxHeartbeats 2000000 in
set_option maxRecDepth 100000 in
theorem removeOthers_any (B WB : Nat) (pv : Value) (P : List Pat) (last : Int) (w : World) (h : WayAt B w WB pv P last) (hB : B ≤ w.heap.size) (hP : P.length ≤ 900000)
    (N : Nat) (ko : Option Addr) (n kc : Nat) (I : Nat → Int) (hN : Free WB pv w N) (n6 : w.cell? ⟨N, 6, none⟩ = some (.slice ko n kc)) (hK : KidsV WB pv w ko n I) (hn : n ≤ 1000)
    (C : Nat) (qa : Option Addr) (m qc : Nat) (l : List Int) (hq : RowV WB pv w C (.slice qa m qc) m l) (hm : m ≤ 1000) :
    Calls Try.prog 78 #[.pointer (some ⟨WB, 0, none⟩), .pointer (some ⟨N, 0, none⟩), .slice qa m qc] w fun e w' => e = .returned (.tuple #[]) ∧ ∃ pv', WayAt B w' WB pv' (P ++ remsP I l n) last ∧ Tells WB pv pv' w w' := by
  have H := hide h
  have HK := hide hK
  have HF := hide hN
  have HQ := hide hq
  clear h hK hN hq
  go_enter Try.func78, Try.ntmps78
  go_wp2_with fail
  go_loopw [6, 7, 13] (fun _ _ i wr => ∃ k : Nat, i = .int .i64 (k : Int) ∧ k ≤ n ∧ Hid (∃ pv', WayAt B wr WB pv' (P ++ remsP I l k) last ∧ Tells WB pv pv' w wr)) (fun _ _ i _ => n - (intOf i).toNat)
  case atStart => exact ⟨0, rfl, Nat.zero_le _, hide ⟨pv, by simpa [remsP] using H.out, .refl ..⟩⟩
  case round =>
    obtain ⟨k, rfl, hk, hE⟩ := hrel
    by_cases hlt : k < n
    · obtain ⟨pv1, hW1, hT1⟩ := hE.out
      obtain ⟨g, D, rfl, f1, f2, c1, c2⟩ := (HK.out.tells hT1) k hlt
      have hC := containsI_any C qa m qc l (k : Int) wr (HQ.out.tells hT1).row (by omega)
      clear hE
      have HW1 := hide hW1
      have HT1 := hide hT1
      have l1 : B ≤ wr.heap.size := Nat.le_trans hB hT1.touch.size
      have hg := f1.1
      have hD := f2.1
      clear hW1 hT1 f1 f2
      cases hq : l.contains (k : Int) with
      | true =>
        rw [hq] at hC
        go_wp2_with (first | (go_at_call 95; refine hC.mono ?_; rintro e x1 ⟨rfl, rfl⟩))
        refine ⟨⟨k + 1, rfl, hlt, hide ⟨pv1, ?_, HT1.out⟩⟩, ?_⟩
        · rw [remsP_yes hq]; exact HW1.out
        · simp only [intOf]; omega
      | false =>
        rw [hq] at hC
        have hT : ∀ w1, w1 = wr.alloc (.cells #[.int .i64 3, .int .i64 (I k), .int .i64 0, .int .i64 0, .int .i64 0, .string ⟨#[]⟩, .string ⟨#[]⟩, .string ⟨#[]⟩] 43) → Calls Try.prog 57 #[.pointer (some ⟨WB, 0, none⟩), .slice (some ⟨wr.heap.size, 0, none⟩) 1 1] w1 fun e w' => e = .returned (.tuple #[]) ∧ ∃ pv', WayAt B w' WB pv' (P ++ remsP I l k ++ [⟨3, I k, 0, 0, 0, ⟨#[]⟩, ⟨#[]⟩, ⟨#[]⟩⟩]) last ∧ Tells WB pv1 pv' wr w' := by
          rintro _ rfl
          exact tell_newp B WB pv1 (P ++ remsP I l k) last wr HW1.out l1 (by have := remsP_length I l k; rw [List.length_append]; omega) 3 (I k) 0 0 0 ⟨#[]⟩ ⟨#[]⟩ ⟨#[]⟩ (by decide) (by decide) (by decide)
        have HTl := hide hT
        clear hT
        go_wp2_with (first | (go_at_call 95; refine hC.mono ?_; rintro e x1 ⟨rfl, rfl⟩) | (go_at_call 57; refine (unhide HTl _ rfl).mono ?_; rintro e x3 ⟨rfl, pv3, hW3, hT3⟩; have HW3 := hide hW3; have HT3 := hide (HT1.out.trans hT3); clear hW3 hT3))
        refine ⟨⟨k + 1, rfl, hlt, hide ⟨pv3, ?_, HT3.out⟩⟩, ?_⟩
        · rw [remsP_no hq, ← List.append_assoc]; exact HW3.out
        · simp only [intOf]; omega
    · have : n = k := by omega
      subst this
      go_wp2_with fail
      refine bodyPost_end (results_none rfl _ _ _) rfl ?_
      exact ⟨rfl, hE.out⟩
end Go.Proofs.Ytobgcaemnpkbmaa
