/- Wlk Ids Tre -/
import Derived.Test.YtobgcaemnpkbmaaGreatD03
import Derived.Deep.RegionHeld3
import Derived.Deep.AppendLies
import Derived.Deep.DrawnRows
namespace Go.Proofs.YtobgcaemnpkbmaaGreat
open Go.RowKit
def idAt (R : List RN) (i : Nat) : Int := match R[i]? with | some n => n.id | none => 0
theorem idAt_lt {R : List RN} {i : Nat} (h : i < R.length) : idAt R i = R[i].id := by unfold idAt; rw [List.getElem?_eq_getElem h]
def walkP (R : List RN) : Nat → Nat → Int → List (Nat × Int)
  | 0, _, _ => []
  | f + 1, a, d => (a, d) :: (kidsP R (idAt R a)).flatMap fun k => walkP R f k (d + 1)
def fitP (R : List RN) : Nat → Nat → Prop
  | 0, _ => False
  | f + 1, a => a < R.length ∧ ∀ k, k ∈ kidsP R (idAt R a) → fitP R f k
def walkTo (R : List RN) (f a : Nat) (d : Int) (k : Nat) : List (Nat × Int) := (a, d) :: ((kidsP R (idAt R a)).take k).flatMap fun c => walkP R f c (d + 1)
theorem walkTo_zero (R : List RN) (f a : Nat) (d : Int) : walkTo R f a d 0 = [(a, d)] := by unfold walkTo; simp
theorem walkTo_all (R : List RN) (f a : Nat) (d : Int) : walkTo R f a d (kidsP R (idAt R a)).length = walkP R (f + 1) a d := by unfold walkTo; rw [walkP, List.take_length]
theorem walkTo_succ {R : List RN} {f a : Nat} {d : Int} {k : Nat} (hk : k < (kidsP R (idAt R a)).length) : walkTo R f a d (k + 1) = walkTo R f a d k ++ walkP R f (kidsP R (idAt R a))[k] (d + 1) := by
  unfold walkTo
  rw [List.take_succ_eq_append_getElem hk, List.flatMap_append, List.cons_append]
  simp
theorem walkTo_le (R : List RN) (f a : Nat) (d : Int) (k : Nat) : (walkTo R f a d k).length ≤ (walkP R (f + 1) a d).length := by
  rw [← walkTo_all]
  by_cases h : k ≤ (kidsP R (idAt R a)).length
  · have h2 : ∀ m, (walkTo R f a d k).length ≤ (walkTo R f a d (k + m)).length := by
      intro m
      induction m with
      | zero => exact Nat.le_refl _
      | succ m ih =>
        by_cases hm : k + m < (kidsP R (idAt R a)).length
        · rw [← Nat.add_assoc, walkTo_succ hm, List.length_append]; omega
        · refine Nat.le_trans ih (Nat.le_of_eq ?_)
          unfold walkTo
          rw [List.take_of_length_le (by omega), List.take_of_length_le (by omega)]
    have := h2 ((kidsP R (idAt R a)).length - k)
    rwa [show k + ((kidsP R (idAt R a)).length - k) = (kidsP R (idAt R a)).length by omega] at this
  · unfold walkTo
    rw [List.take_of_length_le (by omega), List.take_of_length_le (by omega)]
    exact Nat.le_refl _
theorem walkTo_kid_le {R : List RN} {f a : Nat} {d : Int} {k : Nat} (hk : k < (kidsP R (idAt R a)).length) :
    (walkTo R f a d k).length + (walkP R f (kidsP R (idAt R a))[k] (d + 1)).length ≤ (walkP R (f + 1) a d).length := by
  have := walkTo_le R f a d (k + 1)
  rwa [walkTo_succ hk, List.length_append] at this
def places (W : List (Nat × Int)) : List Value := W.map fun x => Value.int .i64 (x.1 : Int)
def deeps (W : List (Nat × Int)) : List Value := W.map fun x => Value.int .i64 x.2
theorem places_length (W : List (Nat × Int)) : (places W).length = W.length := by unfold places; simp
theorem deeps_length (W : List (Nat × Int)) : (deeps W).length = W.length := by unfold deeps; simp
theorem places_append (W V : List (Nat × Int)) : places (W ++ V) = places W ++ places V := by unfold places; simp
theorem deeps_append (W V : List (Nat × Int)) : deeps (W ++ V) = deeps W ++ deeps V := by unfold deeps; simp
theorem places_one (W : List (Nat × Int)) : ∀ u ∈ places W, u.oneCell' = true := by
  intro u hu; obtain ⟨_, _, rfl⟩ := List.mem_map.1 hu; rfl
theorem deeps_one (W : List (Nat × Int)) : ∀ u ∈ deeps W, u.oneCell' = true := by
  intro u hu; obtain ⟨_, _, rfl⟩ := List.mem_map.1 hu; rfl
theorem IntsAt.shape {w : World} {B : Nat} {v : Value} {l : List Value} (h : IntsAt w B v l) : ∃ ao c, v = .slice ao l.length c ∧ (ao = none → l.length = 0 ∧ c = 0) := by
  rcases h.2 with ⟨rfl, e⟩ | ⟨g, cap, cur, rfl, _⟩
  · exact ⟨none, 0, by rw [e], fun _ => ⟨e, rfl⟩⟩
  · exact ⟨_, cap, rfl, fun e => by cases e⟩
theorem IntsAt.some {w : World} {B : Nat} {ao : Option Addr} {n c : Nat} {l : List Value} (h : IntsAt w B (.slice ao n c) l) (h0 : 0 < l.length) : ∃ g, ao = some ⟨g, 0, none⟩ ∧ n ≤ c ∧ B ≤ g ∧ g < w.heap.size ∧ ∀ j, j < l.length → w.cell? ⟨g, j, none⟩ = l[j]? := by
  rcases h.2 with ⟨_, e⟩ | ⟨g, cap, cur, e, hb, hg, hc, _⟩
  · omega
  · cases e
    exact ⟨g, rfl, hc, hb, (Array.getElem?_eq_some_iff.1 hg).1, fun j hj => World.ownsRow.cellAt h j (by omega)⟩
theorem IntsAt.below {w w' : World} {B : Nat} {v : Value} {l : List Value} (h : IntsAt w B v l) (hb : Below w.heap.size w w') : IntsAt w' B v l := ownsRow_below h hb
theorem IntsAt.kept {w w' : World} {B : Nat} {v : Value} {l : List Value} {row : Option Nat} (h : IntsAt w B v l) (hg : w.grownBy w' row) (hne : v.ownBlock = none ∨ v.ownBlock ≠ row) : IntsAt w' B v l := World.ownsRow.kept h hg hne
theorem IntsAt.mono {w : World} {B B' : Nat} {v : Value} {l : List Value} (h : IntsAt w B v l) (hB : B' ≤ B) : IntsAt w B' v l := by
  refine ⟨h.1, h.2.imp id ?_⟩
  rintro ⟨g, cap, cur, e, hb, r⟩
  exact ⟨g, cap, cur, e, Nat.le_trans hB hb, r⟩
theorem IntsAt.src {w : World} {B : Nat} {ao : Option Addr} {n c : Nat} {l : List Value} (h : IntsAt w B (.slice ao n c) l) : ∀ a, ao = Option.some a → ∀ j u, l[j]? = Option.some u → w.cell? (a.add j) = Option.some u := by
  intro a e j u hu
  subst e
  have h0 : j < l.length := (List.getElem?_eq_some_iff.1 hu).1
  obtain ⟨g, e, _, _, _, hc⟩ := h.some (by omega)
  cases e
  rw [addr_add', Nat.zero_add, hc j h0]
  exact hu
theorem IntsAt.none {w : World} {B : Nat} {ao : Option Addr} {n c : Nat} {l : List Value} (h : IntsAt w B (.slice ao n c) l) (e : ao = Option.none) : n = 0 ∧ c = 0 := by
  rcases h.2 with ⟨e', _⟩ | ⟨g, cap, cur, e', _⟩
  · cases e'; exact ⟨rfl, rfl⟩
  · cases e'; cases e
theorem IntsAt.of_app {w : World} {B : Nat} {v : Value} {xs ys : List Value} {m : Nat} (h : w.ownsRow B 3 1 v (xs.length + m) (xs ++ ys)) (hm : m = ys.length) : IntsAt w B v (xs ++ ys) := by
  subst hm; unfold IntsAt; rw [List.length_append]; exact h
structure Walked (w w' : World) (W : List (Nat × Int)) (r1 r2 : Value) : Prop where
  o1 : IntsAt w' w.heap.size r1 (places W)
  o2 : IntsAt w' w.heap.size r2 (deeps W)
  bel : Below w.heap.size w w'
structure WInv (w wr : World) (kv q1 q2 : Value) (K : List Nat) (W : List (Nat × Int)) : Prop where
  o1 : IntsAt wr w.heap.size q1 (places W)
  o2 : IntsAt wr w.heap.size q2 (deeps W)
  ok : IntsAt wr w.heap.size kv (intsOf K)
  n12 : q2.ownBlock ≠ q1.ownBlock
  n1 : kv.ownBlock = none ∨ kv.ownBlock ≠ q1.ownBlock
  n2 : kv.ownBlock = none ∨ kv.ownBlock ≠ q2.ownBlock
  bel : Below w.heap.size w wr
theorem own_lt {w : World} {B : Nat} {e : TypeId} {size : Nat} {v : Value} {n : Nat} {xs : List Value} (h : w.ownsRow B e size v n xs) {M : Nat} (hM : w.heap.size ≤ M) : v.ownBlock ≠ Option.some M := by
  intro e
  have := (h.lt M e).2
  omega
theorem grow_ne {w w' : World} {q q' v : Value} (hg : Grew w w' q q') (hne : v.ownBlock = none ∨ v.ownBlock ≠ q.ownBlock) (hlt : v.ownBlock ≠ Option.some w.heap.size) : v.ownBlock = none ∨ v.ownBlock ≠ q'.ownBlock := by
  rcases hg.at with e | e
  · rw [e]; exact hne
  · rw [e]; exact .inr hlt
theorem WInv.far {w wr w1 : World} {kv q1 q2 r : Value} {K : List Nat} {W : List (Nat × Int)} (h : WInv w wr kv q1 q2 K W) {l : List Value} (hr : IntsAt w1 wr.heap.size r l) : r.ownBlock = Option.none ∨ r.ownBlock ≠ q1.ownBlock := by
  cases hq : r.ownBlock with
  | none => exact .inl rfl
  | some b =>
    refine .inr fun e => ?_
    have h1 := (World.ownsRow.lt hr b hq).1
    have h2 := (World.ownsRow.lt h.o1 b e.symm).2
    omega
theorem WInv.step {w wr w1 w2 w3 : World} {kv q1 q2 q1' q2' r1 r2 : Value} {K : List Nat} {W V : List (Nat × Int)} (h : WInv w wr kv q1 q2 K W) (hV : Walked wr w1 V r1 r2)
    (ho1 : IntsAt w2 w.heap.size q1' (places (W ++ V))) (hg1 : Grew w1 w2 q1 q1') (ho2 : IntsAt w3 w.heap.size q2' (deeps (W ++ V))) (hg2 : Grew w2 w3 q2 q2') : WInv w w3 kv q1' q2' K (W ++ V) := by
  have b1 := hV.bel
  have e1 := h.o1.below b1
  have e2 := h.o2.below b1
  have e3 := h.ok.below b1
  have k2 := e2.kept hg1.by (.inr h.n12)
  have k3 := e3.kept hg1.by h.n1
  have m1 : q2.ownBlock ≠ q1'.ownBlock := by
    rcases hg1.at with e | e
    · rw [e]; exact h.n12
    · rw [e]; exact own_lt e2 (Nat.le_refl _)
  have m3 := grow_ne hg1 h.n1 (own_lt e3 (Nat.le_refl _))
  have m4 := grow_ne hg2 h.n2 (own_lt k3 (Nat.le_refl _))
  have m5 : q2'.ownBlock ≠ q1'.ownBlock := by
    rcases hg2.at with e | e
    · rw [e]; exact m1
    · rw [e]; exact Ne.symm (own_lt ho1 (Nat.le_refl _))
  refine ⟨ho1.kept hg2.by (.inr (Ne.symm m1)), ho2, k3.kept hg2.by h.n2, m5, m3, m4, ?_⟩
  have hsz := h.bel.size
  have c1 := h.bel.trans (b1.mono hsz)
  have c2 := c1.grown hg1.by (by have := b1.size; omega) (fun j hj => (h.o1.lt j hj).1)
  exact c2.grown hg2.by (by have := b1.size; have := hg1.size; omega) (fun j hj => (h.o2.lt j hj).1)
theorem WInv.start {w w2 : World} {kv : Value} {K : List Nat} {a : Nat} {d : Int} {t : TypeId} (ht : t = 3)
    (hb : Below (w.heap.size + 2) ((w.alloc (.cells #[.int .i64 a] t)).alloc (.cells #[.int .i64 d] t)) w2) (hk : IntsAt w2 (w.heap.size + 2) kv (intsOf K)) :
    WInv w w2 kv (.slice (some ⟨w.heap.size, 0, none⟩) 1 1) (.slice (some ⟨w.heap.size + 1, 0, none⟩) 1 1) K [(a, d)] := by
  subst ht
  have r1 := World.ownsRow_lit (base := w.heap.size) (e := 3) (size := 1) w #[.int .i64 a] 1 (Nat.le_refl _) (by unfold maxLen; omega) rfl
  have r1' := r1.alloc (.cells #[.int .i64 d] 3)
  have r2 := World.ownsRow_lit (base := w.heap.size) (e := 3) (size := 1) (w.alloc (.cells #[.int .i64 a] 3)) #[.int .i64 d] 1 (by simp) (by unfold maxLen; omega) rfl
  have hb' : Below ((w.alloc (.cells #[.int .i64 a] 3)).alloc (.cells #[.int .i64 d] 3)).heap.size ((w.alloc (.cells #[.int .i64 a] 3)).alloc (.cells #[.int .i64 d] 3)) w2 := by simpa using hb
  have e : (w.alloc (.cells #[.int .i64 a] 3)).heap.size = w.heap.size + 1 := by simp
  rw [e] at r2
  refine ⟨ownsRow_below r1' hb', ownsRow_below r2 hb', hk.mono (by omega), by simp [Value.ownBlock], ?_, ?_, ?_⟩
  · refine .inr fun e => ?_
    have := (World.ownsRow.lt hk w.heap.size e).1
    omega
  · refine .inr fun e => ?_
    have := (World.ownsRow.lt hk (w.heap.size + 1) e).1
    omega
  · exact (((Below.refl w.heap.size w).alloc (Nat.le_refl _) _).alloc (by simp) _).trans (hb.mono (by omega))
set_option maxRecDepth 100000 in
set_option maxHeartbeats 1000000 in
theorem walk_any (S : Nat → Prop) (p : Nat) (R : List RN) (last : Int) (v : Value) : ∀ (f a : Nat) (d : Int) (w : World), fitP R f a → 0 ≤ d → d + f ≤ 1099511627776 → (walkP R f a d).length ≤ 1099511627776 → RefAt S w p R last v →
    Calls Tryz.prog 48 #[.pointer (some ⟨p, 0, none⟩), .int .i64 a, .int .i64 d] w fun e w' => ∃ a1 c1 a2 c2, e = .returned (.tuple #[.slice a1 (walkP R f a d).length c1, .slice a2 (walkP R f a d).length c2]) ∧
      Walked w w' (walkP R f a d) (.slice a1 (walkP R f a d).length c1) (.slice a2 (walkP R f a d).length c2) := by
  obtain ⟨i0, hi, hz0, hz1, hz2⟩ := info_parts intInfo
  intro f
  induction f with
  | zero => intro a d w h; exact absurd h (by simp [fitP])
  | succ f ih =>
    intro a d w hfit hd0 hdf hlen h
    obtain ⟨haR, hkf⟩ := hfit
    obtain ⟨g, cap, rfl, hcc, hg, _, _, hcell⟩ := h.at (by omega)
    have hp := h.lt
    have hfew := h.few
    have c0 := h.c0
    have d0 : w.cell? ⟨g, a * 6, none⟩ = some (.int .i64 R[a].id) := hcell a 0 haR (by omega)
    have HR := hide h
    have HL := hide hlen
    have HF := hide hkf
    have IH := hide ih
    clear h hcell hlen hkf ih
    have HI := hide (idAt_lt haR)
    have hK : ∀ w, RefAt S w p R last (.slice (some ⟨g, 0, none⟩) R.length cap) → Calls Tryz.prog 67 #[.pointer (some ⟨p, 0, none⟩), .int .i64 R[a].id] w fun e w' =>
        ∃ ao c, e = .returned (.slice ao (kidsP R (idAt R a)).length c) ∧ IntsAt w' w.heap.size (.slice ao (kidsP R (idAt R a)).length c) (intsOf (kidsP R (idAt R a))) ∧ Below w.heap.size w w' := by
      intro w hw
      refine (kids_any S p R last _ R[a].id w hw).mono ?_
      rintro e w' ⟨r, rfl, hr, hb⟩
      rw [← HI.out] at hr
      obtain ⟨ao, c, rfl, _⟩ := hr.shape
      rw [intsOf_length] at hr ⊢
      exact ⟨ao, c, rfl, hr, hb⟩
    have HK := hide hK
    clear hK
    go_enter Tryz.func48, Tryz.ntmps48
    go_wp2_with (go_at_call 67; refine (unhide HK _ ((unhide HR).below (((Below.refl _ _).alloc (Nat.le_refl _) _).alloc (by simp) _))).mono ?_; rintro e w2 ⟨ak, ck, rfl, hk2, hb2⟩)
    have HS := hide (WInv.start (a := a) (d := d) (t := 3) rfl (by simpa using hb2) (by simpa using hk2))
    clear hk2 hb2
    go_wp2_with (fail)
    go_loopw [8, 9, 11, 12, 13] (fun o1 o2 i _ _ wr => ∃ (k : Nat) (q1 q2 : Value), k ≤ (kidsP R (idAt R a)).length ∧ i = .int .i64 k ∧ q1 = o1 ∧ q2 = o2 ∧ Hid (WInv w wr (.slice ak (kidsP R (idAt R a)).length ck) q1 q2 (kidsP R (idAt R a)) (walkTo R f a d k))) (fun _ _ i _ _ _ => (kidsP R (idAt R a)).length - (intOf i).toNat)
    case atStart => exact ⟨0, _, _, Nat.zero_le _, rfl, rfl, rfl, by rw [walkTo_zero]; exact HS⟩
    case round =>
      obtain ⟨k, q1, q2, hk, rfl, rfl, rfl, hinv⟩ := hrel
      have hKl : (kidsP R (idAt R a)).length ≤ 800 := by
        unfold kidsP; split
        · simp
        · exact Nat.le_trans (kidsTo_length _ _ _) hfew
      by_cases hlt : k < (kidsP R (idAt R a)).length
      · obtain ⟨gk, rfl, hkc, hgk1, hgk2, hgc⟩ := hinv.out.ok.some (by rw [intsOf_length]; omega)
        have dk : wr.cell? ⟨gk, k, none⟩ = some (.int .i64 ((kidsP R (idAt R a))[k] : Nat)) := by
          rw [hgc k (by rw [intsOf_length]; omega)]; unfold intsOf; rw [List.getElem?_map, List.getElem?_eq_getElem hlt]; rfl
        have HKl := walkTo_kid_le (R := R) (f := f) (a := a) (d := d) hlt
        have HW := hide (walkTo_succ (R := R) (f := f) (a := a) (d := d) hlt)
        have hl0 := HL.out
        have HC := hide (fun w hw => IH.out (kidsP R (idAt R a))[k] (d + 1) w (HF.out _ (List.getElem_mem hlt)) (by omega) (by omega) (by omega) hw)
        have HRr := hide (HR.out.below hinv.out.bel)
        have hsz := hinv.out.bel.size
        clear hgc
        generalize (kidsP R (idAt R a))[k] = kid at *
        generalize walkP R f kid (d + 1) = V at *
        have hb1 : (places (walkTo R f a d k)).length + V.length ≤ 1099511627776 := by rw [places_length]; omega
        have hb2 : (deeps (walkTo R f a d k)).length + V.length ≤ 1099511627776 := by rw [deeps_length]; omega
        clear HKl hl0
        go_wp2_with (first | (go_at_call 48; refine (unhide HC _ (unhide HRr)).mono ?_; rintro e w1 ⟨a1, c1, a2, c2, rfl, hV⟩; have HV := hide hV; have hs1 := hV.bel.size; clear hV) | (at_builtin; refine wpList_app _ rfl (.tmp 45) (.tmp 46) 69 rfl w.heap.size 3 i0 (.int .i64 0) 1 8 Tryz.underlying69 hi hz0 hz1 hz2 rfl q1 _ _ rfl ((unhide hinv).o1.below (unhide HV).bel) a1 V.length c1 (places V) rfl (unhide HV).o1.none (by rw [places_length, Nat.mul_one]) (unhide HV).o1.src (places_one _) (by omega) (by omega) (by omega) ?_; intro q1' w2 ho1 hg1 _; have hs2 := (unhide hg1).size) | (at_builtin; refine wpList_app _ rfl (.tmp 48) (.tmp 49) 69 rfl w.heap.size 3 i0 (.int .i64 0) 1 8 Tryz.underlying69 hi hz0 hz1 hz2 rfl q2 _ _ rfl (((unhide hinv).o2.below (unhide HV).bel).kept (unhide hg1).by (.inr (unhide hinv).n12)) a2 V.length c2 (deeps V) rfl (unhide HV).o2.none (by rw [deeps_length, Nat.mul_one]) ((unhide HV).o2.kept (unhide hg1).by ((unhide hinv).far (unhide HV).o2)).src (deeps_one _) (by omega) (by omega) (by omega) ?_; intro q2' w3 ho2 hg2 _))
        have HN := hide (hinv.out.step HV.out (by rw [places_append]; exact IntsAt.of_app ho1.out (places_length V).symm) hg1.out (by rw [deeps_append]; exact IntsAt.of_app ho2.out (deeps_length V).symm) hg2.out)
        rw [← HW.out] at HN
        clear ho1 hg1 ho2 hg2 HV hinv HRr HC
        go_wp2_with (fail)
        go_roundw
        case rel => exact ⟨k + 1, _, _, by omega, by go_num, rfl, rfl, HN⟩
        case measure => simp [intOf]; omega
      · have hkn : k = (kidsP R (idAt R a)).length := by omega
        have HE : Hid (walkTo R f a d k = walkP R (f + 1) a d) := hide (by rw [hkn]; exact walkTo_all R f a d)
        rw [HE.out] at hinv
        obtain ⟨a1, c1, rfl, _⟩ := hinv.out.o1.shape
        obtain ⟨a2, c2, rfl, _⟩ := hinv.out.o2.shape
        rw [places_length, deeps_length] at *
        clear hkn
        go_wp2_with (fail)
        go_ret2
        exact ⟨a1, c1, a2, c2, rfl, hinv.out.o1, hinv.out.o2, hinv.out.bel⟩
end Go.Proofs.YtobgcaemnpkbmaaGreat
namespace Go.Proofs.YtobgcaemnpkbmaaGreat
open Go.RowKit
attribute [local go_sem ↓] Go.wp_at_zero Go.wp_at_succ
theorem walkP_lt {R : List RN} : ∀ {f a : Nat} {d : Int}, fitP R f a → ∀ x, x ∈ walkP R f a d → x.1 < R.length := by
  intro f
  induction f with
  | zero => intro a d h; exact absurd h (by simp [fitP])
  | succ f ih =>
    intro a d h x hx
    rw [walkP] at hx
    rcases List.mem_cons.1 hx with rfl | hx
    · exact h.1
    · obtain ⟨k, hk, hx⟩ := List.mem_flatMap.1 hx
      exact ih (h.2 k hk) x hx
theorem walkP_pos {R : List RN} {f a : Nat} {d : Int} (h : fitP R f a) : 0 < (walkP R f a d).length := by
  cases f with
  | zero => exact absurd h (by simp [fitP])
  | succ f => rw [walkP]; simp
def idsTo (R : List RN) (W : List (Nat × Int)) (k : Nat) : List Value := (W.take k).map fun x => Value.int .i64 (idAt R x.1)
theorem idsTo_succ {R : List RN} {W : List (Nat × Int)} {k : Nat} (hk : k < W.length) : idsTo R W (k + 1) = idsTo R W k ++ [.int .i64 (idAt R W[k].1)] := by
  unfold idsTo; rw [List.take_succ_eq_append_getElem hk, List.map_append]; rfl
theorem idsTo_length {R : List RN} {W : List (Nat × Int)} {k : Nat} (hk : k ≤ W.length) : (idsTo R W k).length = k := by unfold idsTo; simp; omega
set_option maxRecDepth 100000 in
set_option maxHeartbeats 1600000 in
theorem ids_any (S : Nat → Prop) (p : Nat) (R : List RN) (last : Int) (v : Value) (w : World) (h : RefAt S w p R last v) (r f : Nat) (hr : atP R 1 = (r : Int)) (hf : f ≤ 1099511627776) (hfit : fitP R f r) (hlen : (walkP R f r 0).length ≤ 1099511627776) :
    Calls Tryz.prog 30 #[.pointer (some ⟨p, 0, none⟩)] w fun e w' => ∃ q, e = .returned q ∧ IntsAt w' w.heap.size q (idsTo R (walkP R f r 0) (walkP R f r 0).length) ∧ Below w.heap.size w w' := by
  obtain ⟨i0, hi, hz0, hz1, hz2⟩ := info_parts intInfo
  have hpos := walkP_pos (d := 0) hfit
  have HLt := hide (fun x hx => walkP_lt (d := 0) hfit x hx)
  have c1 := h.c1
  have HR := hide h
  have hp := h.lt
  have hW : ∀ w, RefAt S w p R last v → Calls Tryz.prog 48 #[.pointer (some ⟨p, 0, none⟩), .int .i64 r, .int .i64 0] w fun e w' => ∃ g1 c1 a2 c2, e = .returned (.tuple #[.slice (some ⟨g1, 0, none⟩) (walkP R f r 0).length c1, .slice a2 (walkP R f r 0).length c2]) ∧
      (walkP R f r 0).length ≤ c1 ∧ g1 < w'.heap.size ∧ (∀ k, (hk : k < (walkP R f r 0).length) → w'.cell? ⟨g1, k, none⟩ = some (.int .i64 ((walkP R f r 0)[k].1 : Nat))) ∧ Below w.heap.size w w' := by
    intro w hw
    refine (walk_any S p R last v f r 0 w hfit (by omega) (by omega) hlen hw).mono ?_
    rintro e w' ⟨a1, c1, a2, c2, rfl, hV⟩
    obtain ⟨g1, rfl, hc, _, hg, hcell⟩ := hV.o1.some (by rw [places_length]; exact hpos)
    refine ⟨g1, c1, a2, c2, rfl, hc, hg, fun k hk => ?_, hV.bel⟩
    rw [hcell k (by rw [places_length]; exact hk)]
    unfold places
    rw [List.getElem?_map, List.getElem?_eq_getElem hk]
    rfl
  have HW := hide hW
  have hA : ∀ w, RefAt S w p R last v → Calls Tryz.prog 49 #[.pointer (some ⟨p, 0, none⟩), .int .i64 1] w fun e w' => e = .returned (.int .i64 r) ∧ w' = w := by
    intro w hw; rw [← hr]; exact at_any S p R last v 1 w hw
  have HA := hide hA
  clear hW hA h hr hfit
  generalize walkP R f r 0 = W at *
  go_enter Tryz.func30, Tryz.ntmps30
  go_wp2_with (first | (go_at_call 49; refine (unhide HA _ (unhide HR)).mono ?_; rintro e w1 ⟨rfl, rfl⟩) | (go_at_call 48; refine (unhide HW _ (unhide HR)).mono ?_; rintro e w2 ⟨g1, d1, a2, d2, rfl, hc1, hg1, hcell1, hb2⟩))
  have HC1 := hide hcell1
  have HR2 := hide (HR.out.below hb2)
  have hp2 := HR2.out.lt
  have HB2 := hide hb2
  clear hcell1 HR HW HA c1 hb2
  go_loopw [5, 6] (fun o i wr => ∃ (k : Nat) (q : Value), k ≤ W.length ∧ i = .int .i64 k ∧ q = o ∧ Hid (IntsAt wr w2.heap.size q (idsTo R W k)) ∧ Below w2.heap.size w2 wr) (fun _ i _ => W.length - (intOf i).toNat)
  case atStart => exact ⟨0, _, Nat.zero_le _, rfl, rfl, hide (show IntsAt _ _ _ [] from World.ownsRow_nil _ _ _ _), Below.refl _ _⟩
  case round =>
    obtain ⟨k, q, hk, rfl, rfl, hown, hbel⟩ := hrel
    by_cases hlt : k < W.length
    · have hlt' := HLt.out W[k] (List.getElem_mem hlt)
      obtain ⟨g, cap, rfl, hcc, hg, _, _, hcell⟩ := HR2.out.at (by omega)
      have e0 := (hbel.cell (p := ⟨p, 0, none⟩) hp2).trans HR2.out.c0
      have e1 := (hbel.cell (p := ⟨g1, k, none⟩) hg1).trans (HC1.out k hlt)
      have e2 : wr.cell? ⟨g, W[k].1 * 6, none⟩ = some (.int .i64 R[W[k].1].id) := (hbel.cell (p := ⟨g, W[k].1 * 6, none⟩) hg).trans (hcell W[k].1 0 hlt' (by omega))
      have HX := hide (idsTo_succ (R := R) hlt)
      have HI := hide (idAt_lt hlt')
      rw [HI.out] at HX
      have hL := idsTo_length (R := R) hk
      have i1 : (0 : Int) ≤ (k : Int) := by omega
      have i2 : (k : Int) < (W.length : Int) := by omega
      have hfew := HR2.out.few
      clear hcell
      generalize R[W[k].1].id = nid at *
      generalize W[k].1 = pl at *
      have i3 : (0 : Int) ≤ (pl : Int) := by omega
      have i4 : (pl : Int) < (R.length : Int) := by omega
      have hsz := hbel.size
      have HB := hide hbel
      have lg : g < wr.heap.size := by omega
      have lp : p < wr.heap.size := by omega
      have l1 : g1 < wr.heap.size := by omega
      have hq : ∀ b, b < w2.heap.size → q.ownBlock ≠ some b := fun b hb e => by have := (World.ownsRow.lt hown.out b e).1; omega
      have ag := hq g hg
      have ap := hq p hp2
      have a1 := hq g1 hg1
      clear hq hbel
      go_wp2_with fail
      go_region_held3 (fun w' => w'.cell? ⟨p, 0, none⟩ = some (.slice (some ⟨g, 0, none⟩) R.length cap) ∧ w'.cell? ⟨g1, k, none⟩ = some (.int .i64 pl) ∧ w'.cell? ⟨g, pl * 6, none⟩ = some (.int .i64 nid))
        (first
          | go_keep
          | (go_split_ands
             refine ⟨?_, ?_, ?_⟩
             · (rw [hgrow.cell_far _ (by simp; omega) (Ne.symm ap)]; assumption)
             · (rw [hgrow.cell_far _ (by simp; omega) (Ne.symm a1)]; assumption)
             · (rw [hgrow.cell_far _ (by simp; omega) (Ne.symm ag)]; assumption)))
        ((refine step_append_lies _ (by rfl) _ _ _ (by rfl) w2.heap.size 3 i0 _ 1 8 Tryz.underlying69 hi hz0 hz1 hz2 rfl (by omega) q (idsTo R W k).length _ (by rfl) ((World.ownsRow.alloc (unhide hown) _).drew)
            ⟨wr.heap.size, 0, none⟩ 1 1 [.int .i64 nid] (by rfl) (by rfl) (World.news_of_block (cs := #[.int .i64 nid]) (t := 3) (fr := (0, 0)) (heap_alloc_new wr _)) (by simp [Value.oneCell'])
            (by omega) (by unfold maxLen; omega) (by omega) (by simp; omega) (wr.heap.size + 1) (by simp) ?_; intro gg cap1 w1 hown1 hgrow hat hlt1))
      have hB2 := ((HB.out.alloc hsz (.cells #[.int .i64 nid] 3)).drew).grown hgrow (by simp; omega) (fun j hj => (World.ownsRow.lt hown.out j hj).1)
      have HO := hide (show IntsAt w1 w2.heap.size _ (idsTo R W (k + 1)) by rw [HX.out]; exact IntsAt.of_app hown1 rfl)
      rw [idsTo_length hk] at HO
      clear hown1 hgrow hown HB
      go_wp2
      go_roundw
      case rel => exact ⟨k + 1, _, by omega, by go_num, rfl, HO, hB2⟩
      case measure => simp [intOf]; omega
    · have hkn : k = W.length := by omega
      subst hkn
      go_wp2
      go_ret
      exact ⟨_, rfl, hown.out.mono HB2.out.size, HB2.out.trans (hbel.mono HB2.out.size)⟩
end Go.Proofs.YtobgcaemnpkbmaaGreat
namespace Go.Proofs.YtobgcaemnpkbmaaGreat
open Go.RowKit
attribute [local go_sem ↓] Go.wp_at_zero Go.wp_at_succ
theorem attrInfo' : (Tryz.prog.info? 72).map (fun i => (i.zero, i.size, i.bytes)) = some (some (.agg #[.string ⟨#[]⟩, .string ⟨#[]⟩]), 2, 32) := by kernel_rfl
theorem nodeInfo' : (Tryz.prog.info? 33).map (fun i => (i.zero, i.size, i.bytes)) = some (some (.agg #[.int .i64 0, .string ⟨#[]⟩, .int .i64 0, .slice none 0 0, .string ⟨#[]⟩]), 5, 72) := by kernel_rfl
def attrCells (l : List (ByteArray × ByteArray)) : List Value := l.flatMap fun x => [.string x.1, .string x.2]
theorem attrCells_length (l : List (ByteArray × ByteArray)) : (attrCells l).length = l.length * 2 := by
  unfold attrCells
  induction l with
  | nil => rfl
  | cons a l ih => rw [List.flatMap_cons, List.length_append, ih]; show 2 + l.length * 2 = (l.length + 1) * 2; omega
theorem attrCells_get (l : List (ByteArray × ByteArray)) (i r : Nat) (hi : i < l.length) (hr : r < 2) : (attrCells l)[i * 2 + r]? = [Value.string (nmOf l i), .string (vlOf l i)][r]? := by
  induction l generalizing i with
  | nil => exact absurd hi (Nat.not_lt_zero _)
  | cons a l ih =>
    have e : attrCells (a :: l) = [.string a.1, .string a.2] ++ attrCells l := by unfold attrCells; rw [List.flatMap_cons]
    rw [e]
    cases i with
    | zero => rw [List.getElem?_append_left (by show 0 * 2 + r < 2; omega)]; simp [nmOf, vlOf]
    | succ i =>
      rw [List.getElem?_append_right (by show 2 ≤ _; omega)]
      have e2 : (i + 1) * 2 + r - [Value.string a.1, Value.string a.2].length = i * 2 + r := by show _ - 2 = _; omega
      rw [e2, ih i (by simpa using hi)]
      rfl
theorem attrCells_one (l : List (ByteArray × ByteArray)) : ∀ u ∈ attrCells l, u.oneCell' = true := by
  intro u hu
  obtain ⟨x, _, hu⟩ := List.mem_flatMap.1 hu
  simp at hu
  rcases hu with rfl | rfl <;> rfl
theorem attrs_from {w : World} {ao : Option Addr} {n : Nat} {l : List (ByteArray × ByteArray)} (hn : n = l.length) (h : AttrsAt w ao n (nmOf l) (vlOf l)) : ∀ a, ao = some a → ∀ j u, (attrCells l)[j]? = some u → w.cell? (a.add j) = some u := by
  intro a e j u hu
  have hj : j < l.length * 2 := by
    have := (List.getElem?_eq_some_iff.1 hu).1
    rwa [attrCells_length] at this
  have hi : j / 2 < n := by omega
  obtain ⟨b, o, e', _, c0, c1, _⟩ := h (j / 2) hi
  rw [e'] at e
  cases e
  rw [addr_add']
  have e1 : j = j / 2 * 2 + j % 2 := by omega
  rw [e1, attrCells_get l _ _ (by omega) (by omega)] at hu
  have hm : j % 2 = 0 ∨ j % 2 = 1 := by omega
  rcases hm with hm | hm
  · rw [hm] at hu; simp at hu; subst hu
    rw [show o + j = o + j / 2 * 2 by omega]; exact c0
  · rw [hm] at hu; simp at hu; subst hu
    rw [show o + j = o + j / 2 * 2 + 1 by omega]; exact c1
theorem attrs_of_row {w : World} {base : Nat} {ao : Option Addr} {n c : Nat} {l : List (ByteArray × ByteArray)} (h : w.ownsRow base 72 2 (.slice ao n c) n (attrCells l)) (hn : n = l.length) (hs : ∀ x, x ∈ l → x.1.size ≤ maxLen ∧ x.2.size ≤ maxLen) : AttrsAt w ao n (nmOf l) (vlOf l) := by
  intro j hj
  rcases h.2 with ⟨_, e⟩ | ⟨g, cap, cur, e, _, hg, hc, _⟩
  · omega
  · cases e
    have hx : l[j]'(by omega) ∈ l := List.getElem_mem _
    have e1 : nmOf l j = (l[j]'(by omega)).1 := by unfold nmOf; rw [List.getD_eq_getElem?_getD, List.getElem?_eq_getElem (by omega)]; rfl
    have e2 : vlOf l j = (l[j]'(by omega)).2 := by unfold vlOf; rw [List.getD_eq_getElem?_getD, List.getElem?_eq_getElem (by omega)]; rfl
    refine ⟨g, 0, rfl, (Array.getElem?_eq_some_iff.1 hg).1, ?_, ?_, by rw [e1]; exact (hs _ hx).1, by rw [e2]; exact (hs _ hx).2⟩
    · rw [Nat.zero_add, h.cellAt (j * 2) (by omega)]
      exact attrCells_get l j 0 (by omega) (by omega)
    · rw [Nat.zero_add, h.cellAt (j * 2 + 1) (by omega)]
      exact attrCells_get l j 1 (by omega) (by omega)
structure TN where
  d : Int
  tag : ByteArray
  key : Int
  text : ByteArray
  ats : List (ByteArray × ByteArray)
  ao : Option Addr
  an : Nat
  ac : Nat
def TN.cells (n : TN) : List Value := [.int .i64 n.d, .string n.tag, .int .i64 n.key, .slice n.ao n.an n.ac, .string n.text]
def tellOf (N : List TN) : List Value := N.flatMap TN.cells
theorem tellOf_length (N : List TN) : (tellOf N).length = N.length * 5 := by
  unfold tellOf
  induction N with
  | nil => rfl
  | cons a N ih => rw [List.flatMap_cons, List.length_append, ih, List.length_cons]; show 5 + _ = _; omega
theorem tellOf_snoc (N : List TN) (n : TN) : tellOf (N ++ [n]) = tellOf N ++ n.cells := by unfold tellOf; simp
theorem tellOf_get (N : List TN) (i r : Nat) (hi : i < N.length) (hr : r < 5) : (tellOf N)[i * 5 + r]? = (N[i]).cells[r]? := by
  induction N generalizing i with
  | nil => exact absurd hi (Nat.not_lt_zero _)
  | cons a N ih =>
    have e : tellOf (a :: N) = a.cells ++ tellOf N := by unfold tellOf; rw [List.flatMap_cons]
    rw [e]
    cases i with
    | zero => rw [List.getElem?_append_left (by show 0 * 5 + r < 5; omega)]; simp
    | succ i =>
      rw [List.getElem?_append_right (by show 5 ≤ _; omega)]
      have e2 : (i + 1) * 5 + r - a.cells.length = i * 5 + r := by show _ - 5 = _; omega
      rw [e2, ih i (by simpa using hi)]
      rfl
theorem TN.cells_one (n : TN) : ∀ u ∈ n.cells, u.oneCell' = true := by
  intro u hu; simp [TN.cells] at hu; rcases hu with rfl | rfl | rfl | rfl | rfl <;> rfl
def TN.av (n : TN) : Value := .slice n.ao n.an n.ac
structure TN.Ok (B : Nat) (w : World) (q : Value) (n : TN) : Prop where
  an : n.an = n.ats.length
  tag : n.tag.size ≤ maxLen
  text : n.text.size ≤ maxLen
  row : w.ownsRow B 72 2 n.av n.an (attrCells n.ats)
  size : ∀ x, x ∈ n.ats → x.1.size ≤ maxLen ∧ x.2.size ≤ maxLen
  ne : n.av.ownBlock = none ∨ n.av.ownBlock ≠ q.ownBlock
structure TellAt (B : Nat) (w : World) (q : Value) (N : List TN) : Prop where
  row : w.ownsRow B 33 5 q N.length (tellOf N)
  node : ∀ n, n ∈ N → n.Ok B w q
  far : N.Pairwise fun m n => n.av.ownBlock = none ∨ n.av.ownBlock ≠ m.av.ownBlock
def tellP (R : List RN) (x : Nat × Int) (n : TN) : Prop := ∃ h : x.1 < R.length, n.d = x.2 ∧ n.tag = R[x.1].tag ∧ n.key = R[x.1].key ∧ n.text = R[x.1].text ∧ n.ats = R[x.1].ats
theorem TellAt.nil (B : Nat) (w : World) : TellAt B w (.slice none 0 0) [] := ⟨World.ownsRow_nil _ _ _ _, fun n h => by simp at h, List.Pairwise.nil⟩
theorem TN.Ok.kept {B : Nat} {w w' : World} {q q' : Value} {n : TN} (h : n.Ok B w q) (hg : Grew w w' q q') : n.Ok B w' q' :=
  ⟨h.an, h.tag, h.text, h.row.kept hg.by h.ne, h.size, grow_ne hg h.ne (own_lt h.row (Nat.le_refl _))⟩
theorem TN.Ok.below {B : Nat} {w w' : World} {q : Value} {n : TN} (h : n.Ok B w q) (hb : Below w.heap.size w w') : n.Ok B w' q :=
  ⟨h.an, h.tag, h.text, ownsRow_below h.row hb, h.size, h.ne⟩
theorem TellAt.below {B : Nat} {w w' : World} {q : Value} {N : List TN} (h : TellAt B w q N) (hb : Below w.heap.size w w') : TellAt B w' q N :=
  ⟨ownsRow_below h.row hb, fun n hn => (h.node n hn).below hb, h.far⟩
theorem own_ge {w : World} {B : Nat} {e : TypeId} {size : Nat} {v : Value} {n : Nat} {xs : List Value} (h : w.ownsRow B e size v n xs) {B' : Nat} (hB : B' ≤ B) : w.ownsRow B' e size v n xs := by
  refine ⟨h.1, h.2.imp id ?_⟩
  rintro ⟨g, cap, cur, e, hb, r⟩
  exact ⟨g, cap, cur, e, Nat.le_trans hB hb, r⟩
theorem own_far {w w1 : World} {B B1 : Nat} {e e1 : TypeId} {size size1 : Nat} {v v1 : Value} {n n1 : Nat} {xs xs1 : List Value} (h : w.ownsRow B e size v n xs) (h1 : w1.ownsRow B1 e1 size1 v1 n1 xs1) (hs : w.heap.size ≤ B1) : v1.ownBlock = none ∨ v1.ownBlock ≠ v.ownBlock := by
  cases hv : v1.ownBlock with
  | none => exact .inl rfl
  | some b =>
    refine .inr fun e => ?_
    have := (h1.lt b hv).1
    have := (h.lt b e.symm).2
    omega
theorem TellAt.more {B : Nat} {w w1 w2 : World} {q q' : Value} {N : List TN} {n : TN} (h : TellAt B w q N) (hB : B ≤ w.heap.size) (hb : Below w.heap.size w w1) (han : n.an = n.ats.length) (htag : n.tag.size ≤ maxLen) (htext : n.text.size ≤ maxLen)
    (hrow : w1.ownsRow w.heap.size 72 2 n.av n.an (attrCells n.ats)) (hsz : ∀ x, x ∈ n.ats → x.1.size ≤ maxLen ∧ x.2.size ≤ maxLen)
    (ho : w2.ownsRow B 33 5 q' (N.length + 1) (tellOf N ++ n.cells)) (hg : Grew w1 w2 q q') : TellAt B w2 q' (N ++ [n]) := by
  have hn : n.Ok B w1 q := ⟨han, htag, htext, own_ge hrow hB, hsz, own_far h.row hrow (Nat.le_refl _)⟩
  refine ⟨?_, fun m hm => ?_, ?_⟩
  · rw [List.length_append, tellOf_snoc]; exact ho
  · rcases List.mem_append.1 hm with hm | hm
    · exact ((h.node m hm).below hb).kept hg
    · have := List.mem_singleton.1 hm
      subst this
      exact hn.kept hg
  · rw [List.pairwise_append]
    refine ⟨h.far, List.pairwise_singleton _ _, fun m hm x hx => ?_⟩
    have := List.mem_singleton.1 hx
    subst this
    exact own_far (h.node m hm).row hrow (Nat.le_refl _)
end Go.Proofs.YtobgcaemnpkbmaaGreat
