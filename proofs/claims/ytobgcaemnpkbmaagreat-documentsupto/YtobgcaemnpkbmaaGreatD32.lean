/- Pats Apl Pid Plo Joi -/
import Derived.Test.YtobgcaemnpkbmaaGreatD31
import Derived.Test.YtobgcaemnpkbmaaGreatD07
import Derived.Test.YtobgcaemnpkbmaaGreatD03
import Derived.Test.YtobgcaemnpkbmaaGreatD04
import Derived.Test.YtobgcaemnpkbmaaGreatD05
namespace Go.Proofs.YtobgcaemnpkbmaaGreat
open Go.RowKit
theorem patInfo : (Tryz.prog.info? 29).map (fun i => (i.zero, i.size, i.bytes)) = some (some (.agg #[.int .i64 0, .int .i64 0, .int .i64 0, .int .i64 0, .int .i64 0, .string ⟨#[]⟩, .string ⟨#[]⟩, .string ⟨#[]⟩]), 8, 88) := by kernel_rfl
theorem patSize : (Tryz.prog.info? 29).map (·.size) = some 8 := by kernel_rfl
def patCell (x : Pat) : Nat → Value
  | 0 => .int .i64 x.kind
  | 1 => .int .i64 x.id
  | 2 => .int .i64 x.par
  | 3 => .int .i64 x.bef
  | 4 => .int .i64 x.key
  | 5 => .string x.tag
  | 6 => .string x.name
  | _ => .string x.text
def patsCell (X : Nat → Pat) (j : Nat) : Value := patCell (X (j / 8)) (j % 8)
theorem patsCell_at (X : Nat → Pat) (i r : Nat) (hr : r < 8) : patsCell X (i * 8 + r) = patCell (X i) r := by
  unfold patsCell
  have e1 : (i * 8 + r) / 8 = i := by omega
  have e2 : (i * 8 + r) % 8 = r := by omega
  rw [e1, e2]
theorem patCell_one (x : Pat) (j : Nat) : (patCell x j).oneCell' = true := by
  unfold patCell; split <;> rfl
theorem eight_cases (j : Nat) : ∃ i r, r < 8 ∧ j = i * 8 + r := ⟨j / 8, j % 8, by omega, by omega⟩
theorem patsCell_congr {X Y : Nat → Pat} {j : Nat} (h : X (j / 8) = Y (j / 8)) : patsCell X j = patsCell Y j := by
  unfold patsCell; rw [h]
structure PatsAt (w : World) (b o n : Nat) (X : Nat → Pat) : Prop where
  lt : b < w.heap.size
  cell : ∀ j, j < n * 8 → w.cell? ⟨b, o + j, none⟩ = some (patsCell X j)
def PListAt (w : World) (ao : Option Addr) (n : Nat) (X : Nat → Pat) : Prop := 0 < n → ∃ b o, ao = some ⟨b, o, none⟩ ∧ PatsAt w b o n X
theorem PatsAt.below {w w' : World} {b o n : Nat} {X : Nat → Pat} (h : PatsAt w b o n X) (hb : Below w.heap.size w w') : PatsAt w' b o n X :=
  ⟨Nat.lt_of_lt_of_le h.lt hb.size, fun j hj => (hb.cell (p := ⟨b, _, none⟩) h.lt).trans (h.cell j hj)⟩
theorem PListAt.below {w w' : World} {ao : Option Addr} {n : Nat} {X : Nat → Pat} (h : PListAt w ao n X) (hb : Below w.heap.size w w') : PListAt w' ao n X := fun h0 =>
  let ⟨b, o, e, g⟩ := h h0
  ⟨b, o, e, g.below hb⟩
theorem pats_src {w : World} {ao : Option Addr} {n : Nat} {X : Nat → Pat} (h : PListAt w ao n X) (h0 : 0 < n) : ∃ ad, ao = some ad ∧ ∀ j, j < n * 8 → w.cell? (ad.add j) = some (patsCell X j) := by
  obtain ⟨b, o, e, h⟩ := h h0
  exact ⟨⟨b, o, none⟩, e, fun j hj => by rw [addr_add]; exact h.cell j hj⟩
def spareP : Pat := ⟨0, 0, 0, 0, 0, ⟨#[115, 112, 97, 114, 101]⟩, ⟨#[]⟩, ⟨#[]⟩⟩
def overP : Pat := ⟨0, 0, 0, 0, 0, ⟨#[111, 118, 101, 114]⟩, ⟨#[]⟩, ⟨#[]⟩⟩
def lentP (X : Nat → Pat) (n : Nat) (i : Nat) : Pat := if i < n then X i else spareP
theorem lentP_start {X : Nat → Pat} {n j : Nat} {f : Nat → Value} : (if j < n * 8 then patsCell X j else f j) = if j < n * 8 then patsCell (lentP X n) j else f j := by
  by_cases h : j < n * 8
  · rw [if_pos h, if_pos h]
    refine patsCell_congr ?_
    unfold lentP
    rw [if_pos (by omega)]
  · rw [if_neg h, if_neg h]
theorem pat_step {F G : Nat → Value} {m : Nat} {x : Pat} (hG : ∀ i r, r < 8 → G (i * 8 + r) = if i = m then patCell x r else F (i * 8 + r)) (j : Nat) :
    (if j = m * 8 + 7 then .string x.text else if j = m * 8 + 6 then .string x.name else if j = m * 8 + 5 then .string x.tag else if j = m * 8 + 4 then .int .i64 x.key else if j = m * 8 + 3 then .int .i64 x.bef else if j = m * 8 + 2 then .int .i64 x.par else if j = m * 8 + 1 then .int .i64 x.id else if j = m * 8 then .int .i64 x.kind else F j) = G j := by
  obtain ⟨i, r, hr, rfl⟩ := eight_cases j
  rw [hG i r hr]
  by_cases hi : i = m
  · subst hi
    rw [if_pos rfl]
    match r, hr with
    | 0, _ => simp [patCell]
    | 1, _ => simp [patCell]
    | 2, _ => simp [patCell]
    | 3, _ => simp [patCell]
    | 4, _ => simp [patCell]
    | 5, _ => simp [patCell]
    | 6, _ => simp [patCell]
    | 7, _ => simp [patCell]
  · rw [if_neg hi, if_neg (by omega), if_neg (by omega), if_neg (by omega), if_neg (by omega), if_neg (by omega), if_neg (by omega), if_neg (by omega), if_neg (by omega)]
theorem lentP_fill {X : Nat → Pat} {n m : Nat} {f : Nat → Value} (h : n ≤ m) (i r : Nat) (hr : r < 8) :
    (if i * 8 + r < (m + 1) * 8 then patsCell (lentP X n) (i * 8 + r) else f (i * 8 + r)) = if i = m then patCell spareP r else if i * 8 + r < m * 8 then patsCell (lentP X n) (i * 8 + r) else f (i * 8 + r) := by
  by_cases hi : i = m
  · subst hi
    rw [if_pos (by omega), if_pos rfl, patsCell_at _ _ _ hr]
    unfold lentP
    rw [if_neg (by omega)]
  · rw [if_neg hi]
    by_cases hl : i * 8 + r < m * 8
    · rw [if_pos hl, if_pos (by omega)]
    · rw [if_neg hl, if_neg (by omega)]
set_option maxRecDepth 100000 in
set_option maxHeartbeats 1000000 in
theorem patches_any (ao : Option Addr) (n c : Nat) (X : Nat → Pat) (w : World) (hn : n * 88 ≤ 140737488351232) (h : PListAt w ao n X) :
    Calls Tryz.prog 33 #[.slice ao n c] w fun e w' => e = .returned (.slice (some ⟨w.heap.size, 0, none⟩) (n + 3) (n + 3)) ∧ Below w.heap.size w w' ∧ w'.rowIs w.heap.size 29 ((n + 3) * 8) (patsCell (lentP X n)) := by
  obtain ⟨i0, hi, hz0, hz1, hz2⟩ := info_parts patInfo
  have H := hide h
  clear h
  go_enter Tryz.func33, Tryz.ntmps33
  go_wp2_with (first | (refine wpList_make_rows rfl (.tmp 7) (.tmp 7) 25 rfl 29 i0 _ 8 88 Tryz.underlying25 hi hz0 hz1 hz2 .i64 .i64 _ (n + 3) rfl rfl (by omega) (by omega) (by omega) ?_; intro w1 f1 hr1 hs1 hb1) | (refine wpList_copy_rows rfl (.tmp 9) (.tmp 10) 25 25 rfl 29 Tryz.underlying25 8 patSize w.heap.size (n + 3) (n + 3) ao n c rfl rfl (by omega) 29 ((n + 3) * 8) f1 (unhide hr1) (patsCell X) (pats_src ((unhide H).below hb1)) (by omega) (fun j _ => patCell_one _ _) w.heap.size w hb1 (Nat.le_refl _) ?_; intro w2 hr2 hs2 hb2))
  go_loopw [4] (fun i wr => ∃ m : Nat, n ≤ m ∧ m ≤ n + 3 ∧ i = .int .i64 m ∧ Hid (wr.rowIs w.heap.size 29 ((n + 3) * 8) (fun j => if j < m * 8 then patsCell (lentP X n) j else f1 j)) ∧ Below w.heap.size w wr) (fun i _ => n + 3 - (intOf i).toNat)
  case atStart => exact ⟨n, Nat.le_refl _, by omega, rfl, hide (hr2.out.congr fun j _ => lentP_start), hb2⟩
  case round =>
    obtain ⟨m, hm1, hm2, rfl, hr, hbel⟩ := hrel
    by_cases hlt : m < n + 3
    · obtain ⟨u0, hu0⟩ : ∃ u, wr.cell? ⟨w.heap.size, m * 8, none⟩ = some u := ⟨_, hr.out.cell (by omega)⟩
      obtain ⟨u1, hu1⟩ : ∃ u, wr.cell? ⟨w.heap.size, m * 8 + 1, none⟩ = some u := ⟨_, hr.out.cell (by omega)⟩
      obtain ⟨u2, hu2⟩ : ∃ u, wr.cell? ⟨w.heap.size, m * 8 + 2, none⟩ = some u := ⟨_, hr.out.cell (by omega)⟩
      obtain ⟨u3, hu3⟩ : ∃ u, wr.cell? ⟨w.heap.size, m * 8 + 3, none⟩ = some u := ⟨_, hr.out.cell (by omega)⟩
      obtain ⟨u4, hu4⟩ : ∃ u, wr.cell? ⟨w.heap.size, m * 8 + 4, none⟩ = some u := ⟨_, hr.out.cell (by omega)⟩
      obtain ⟨u5, hu5⟩ : ∃ u, wr.cell? ⟨w.heap.size, m * 8 + 5, none⟩ = some u := ⟨_, hr.out.cell (by omega)⟩
      obtain ⟨u6, hu6⟩ : ∃ u, wr.cell? ⟨w.heap.size, m * 8 + 6, none⟩ = some u := ⟨_, hr.out.cell (by omega)⟩
      obtain ⟨u7, hu7⟩ : ∃ u, wr.cell? ⟨w.heap.size, m * 8 + 7, none⟩ = some u := ⟨_, hr.out.cell (by omega)⟩
      have f0 := hr.out.frozen (m * 8)
      have f1' := hr.out.frozen (m * 8 + 1)
      have f2 := hr.out.frozen (m * 8 + 2)
      have f3 := hr.out.frozen (m * 8 + 3)
      have f4 := hr.out.frozen (m * 8 + 4)
      have f5 := hr.out.frozen (m * 8 + 5)
      have f6 := hr.out.frozen (m * 8 + 6)
      have f7 := hr.out.frozen (m * 8 + 7)
      have HN := hide ((((((((((hr.out.set (m * 8) (.int .i64 0)).set (m * 8 + 1) (.int .i64 0)).set (m * 8 + 2) (.int .i64 0)).set (m * 8 + 3) (.int .i64 0)).set (m * 8 + 4) (.int .i64 0)).set (m * 8 + 5) (.string ⟨#[115, 112, 97, 114, 101]⟩)).set (m * 8 + 6) (.string ⟨#[]⟩)).set (m * 8 + 7) (.string ⟨#[]⟩))).congr (g := fun j => if j < (m + 1) * 8 then patsCell (lentP X n) j else f1 j) fun j _ => pat_step (F := fun j => if j < m * 8 then patsCell (lentP X n) j else f1 j) (G := fun j => if j < (m + 1) * 8 then patsCell (lentP X n) j else f1 j) (m := m) (x := spareP) (fun i r hr => lentP_fill hm1 i r hr) j)
      have HB := hide ((((((((hbel.setCell (p := ⟨w.heap.size, m * 8, none⟩) (Nat.le_refl _) (.int .i64 0)).setCell (p := ⟨w.heap.size, m * 8 + 1, none⟩) (Nat.le_refl _) (.int .i64 0)).setCell (p := ⟨w.heap.size, m * 8 + 2, none⟩) (Nat.le_refl _) (.int .i64 0)).setCell (p := ⟨w.heap.size, m * 8 + 3, none⟩) (Nat.le_refl _) (.int .i64 0)).setCell (p := ⟨w.heap.size, m * 8 + 4, none⟩) (Nat.le_refl _) (.int .i64 0)).setCell (p := ⟨w.heap.size, m * 8 + 5, none⟩) (Nat.le_refl _) (.string ⟨#[115, 112, 97, 114, 101]⟩)).setCell (p := ⟨w.heap.size, m * 8 + 6, none⟩) (Nat.le_refl _) (.string ⟨#[]⟩)).setCell (p := ⟨w.heap.size, m * 8 + 7, none⟩) (Nat.le_refl _) (.string ⟨#[]⟩))
      clear hr1 hr2
      go_wp2
      go_roundw
      case rel => exact ⟨m + 1, by omega, by omega, by go_num, HN, HB.out⟩
      case measure => simp [intOf]; omega
    · go_wp2
      go_ret
      refine ⟨rfl, hbel, hr.out.congr fun j hj => ?_⟩
      rw [if_pos (by omega)]
end Go.Proofs.YtobgcaemnpkbmaaGreat
namespace Go.Proofs.YtobgcaemnpkbmaaGreat
open Go.RowKit
set_option maxHeartbeats 2000000 in
set_option maxRecDepth 100000 in
theorem apply_any (ρ : Roles) (nb : Int → Nat) (mb : Nat) (w : World) (q : Nat) (R : List RN) (last : Int) (h : Dom ρ nb mb (some (nb 1)) w q R last) (hok : DocOk R last) (hF : Fine R) (ao : Option Addr) (n c : Nat) (X : Nat → Pat) (hl : last + n ≤ 4611686018427387904) (hn : n ≤ 1099511627776) (hX : PListAt w ao n X) (hfree : ∀ a, ao = some a → ρ a.block = none) (hx : ∀ i, i < n → (X i).Ok ∧ (X i).Ints) :
    Calls Tryz.prog 53 #[.pointer (some ⟨q, 0, none⟩), .slice ao n c] w fun e w' => ∃ k, k ≤ n ∧ RunsTo R last X k ∧ (∃ nb' ρ', Wrote ρ ρ' w w' ∧ Dom ρ' nb' mb (some (nb' 1)) w' q (runP R last X k).1 (runP R last X k).2) ∧ ((k = n ∧ e = .returned (.tuple #[.int .i64 0, .int .i64 0])) ∨ (k < n ∧ canP (runP R last X k).1 (runP R last X k).2 (X k) = false ∧ e = .returned (.tuple #[.int .i64 4, .int .i64 k]))) := by
  have HLo : Hid (∀ b o, ao = some ⟨b, o, none⟩ → ρ b = none) := hide fun b o e => hfree _ e
  have HX := hide hX
  have HOk := hide hx
  have HR : Hid (∀ k, RunsTo R last X k → DocOk (runP R last X k).1 (runP R last X k).2 ∧ Fine (runP R last X k).1 ∧ (runP R last X k).2 ≤ last + k) := hide fun k hr => hr.ok hok hF
  have H0 := hide h
  clear hfree hX hx hok hF h
  go_enter Tryz.func53, Tryz.ntmps53
  go_wp2_with fail
  go_loopw [6, 7, 10] (fun _ _ i wr => ∃ k : Nat, k ≤ n ∧ i = .int .i64 k ∧ Hid (RunsTo R last X k) ∧ Hid (∃ nb' ρ', Wrote ρ ρ' w wr ∧ Dom ρ' nb' mb (some (nb' 1)) wr q (runP R last X k).1 (runP R last X k).2)) (fun _ _ i _ => n - (intOf i).toNat)
  case atStart => exact ⟨0, Nat.zero_le _, rfl, hide (RunsTo.zero _ _ _), hide ⟨nb, ρ, ⟨Touch.of_below (Below.refl _ _), fun _ _ => rfl, fun _ h => .inl h⟩, unhide H0⟩⟩
  case round =>
    obtain ⟨k, hk, rfl, hrun, hdom⟩ := hrel
    by_cases hlt : k < n
    · obtain ⟨nb1, ρ1, hw1, hd1⟩ := hdom.out
      obtain ⟨b, o, hao, hpat⟩ := HX.out (by omega)
      have hbl := hpat.lt
      have hρb := HLo.out b o hao
      subst hao
      obtain ⟨hok1, hF1, hl1⟩ := HR.out k hrun.out
      obtain ⟨hxo, hxi⟩ := HOk.out k hlt
      have hcell : ∀ r, r < 8 → wr.cell? ⟨b, o + (k * 8 + r), none⟩ = some (patCell (X k) r) := fun r hr => by
        rw [World.cell?_of_block (hw1.1.block b hbl (by rw [hρb]; simp)), hpat.cell _ (by omega), patsCell_at _ _ _ hr]
      have hki : (k : Int) < (n : Int) := by omega
      have HD1 := hide hd1
      have HW1 := hide hw1
      have HDo : Hid (∀ w8, Below wr.heap.size wr w8 → Calls Tryz.prog 70 #[.pointer (some ⟨q, 0, none⟩), (X k).val] w8 fun e w' => e = .returned (.bool (canP (runP R last X k).1 (runP R last X k).2 (X k))) ∧ PPost ρ1 nb1 mb wr q (runP R last X k).1 (runP R last X k).2 (X k) (canP (runP R last X k).1 (runP R last X k).2 (X k)) w') := hide fun w8 hb8 => by
        refine (pdo_any ρ1 nb1 mb w8 q _ _ (hd1.below hb8) hok1 hF1 (by omega) (X k) hxo hxi).mono ?_
        rintro e w' ⟨b, rfl, hp⟩
        have e1 := hp.1
        subst e1
        exact ⟨rfl, hp.after hb8⟩
      have HNext : Hid (canP (runP R last X k).1 (runP R last X k).2 (X k) = true → ∀ w', PPost ρ1 nb1 mb wr q (runP R last X k).1 (runP R last X k).2 (X k) true w' → ∃ nb' ρ', Wrote ρ ρ' w w' ∧ Dom ρ' nb' mb (some (nb' 1)) w' q (runP R last X (k + 1)).1 (runP R last X (k + 1)).2) := hide fun _ w' hp => by
        obtain ⟨_, nb', ρ', h2, _, h4⟩ := hp
        rw [if_pos rfl, if_pos rfl] at h4
        exact ⟨nb', ρ', hw1.trans h2, h4⟩
      have HStop : Hid (∀ w', PPost ρ1 nb1 mb wr q (runP R last X k).1 (runP R last X k).2 (X k) false w' → ∃ nb' ρ', Wrote ρ ρ' w w' ∧ Dom ρ' nb' mb (some (nb' 1)) w' q (runP R last X k).1 (runP R last X k).2) := hide fun w' hp => by
        obtain ⟨_, nb', ρ', h2, _, h4⟩ := hp
        rw [if_neg (by simp), if_neg (by simp)] at h4
        exact ⟨nb', ρ', hw1.trans h2, h4⟩
      have HCan : Hid (∀ v, canP (runP R last X k).1 (runP R last X k).2 (X k) = v → canP (runP R last X k).1 (runP R last X k).2 (X k) = v) := hide fun _ e => e
      clear hd1 hw1 hok1 hF1 hxo hxi hpat hρb
      generalize hC : canP (runP R last X k).1 (runP R last X k).2 (X k) = C at HDo HNext HCan
      have HC := hide hC
      clear hC HCan
      generalize hPP : PPost ρ1 nb1 mb wr q (runP R last X k).1 (runP R last X k).2 (X k) = PP at *
      clear hPP
      obtain ⟨kd, id, pa, bf, ky, tg, nm, tx, hXk⟩ : ∃ kd id pa bf ky tg nm tx, X k = ⟨kd, id, pa, bf, ky, tg, nm, tx⟩ := ⟨_, _, _, _, _, _, _, _, rfl⟩
      rw [hXk] at hcell
      have HDo2 : Hid (∀ w8, Below wr.heap.size wr w8 → Calls Tryz.prog 70 #[.pointer (some ⟨q, 0, none⟩), .agg #[.int .i64 kd, .int .i64 id, .int .i64 pa, .int .i64 bf, .int .i64 ky, .string tg, .string nm, .string tx]] w8 fun e w' => e = .returned (.bool C) ∧ PP C w') := by rw [hXk] at HDo; exact HDo
      clear hXk HDo
      have c0 : wr.cell? ⟨b, o + k * 8, none⟩ = some (.int .i64 kd) := by have := hcell 0 (by decide); simpa [patCell, Nat.add_assoc] using this
      have c1 : wr.cell? ⟨b, o + k * 8 + 1, none⟩ = some (.int .i64 id) := by have := hcell 1 (by decide); simpa [patCell, Nat.add_assoc] using this
      have c2 : wr.cell? ⟨b, o + k * 8 + 2, none⟩ = some (.int .i64 pa) := by have := hcell 2 (by decide); simpa [patCell, Nat.add_assoc] using this
      have c3 : wr.cell? ⟨b, o + k * 8 + 3, none⟩ = some (.int .i64 bf) := by have := hcell 3 (by decide); simpa [patCell, Nat.add_assoc] using this
      have c4 : wr.cell? ⟨b, o + k * 8 + 4, none⟩ = some (.int .i64 ky) := by have := hcell 4 (by decide); simpa [patCell, Nat.add_assoc] using this
      have c5 : wr.cell? ⟨b, o + k * 8 + 5, none⟩ = some (.string tg) := by have := hcell 5 (by decide); simpa [patCell, Nat.add_assoc] using this
      have c6 : wr.cell? ⟨b, o + k * 8 + 6, none⟩ = some (.string nm) := by have := hcell 6 (by decide); simpa [patCell, Nat.add_assoc] using this
      have c7 : wr.cell? ⟨b, o + k * 8 + 7, none⟩ = some (.string tx) := by have := hcell 7 (by decide); simpa [patCell, Nat.add_assoc] using this
      clear hcell
      go_wp2_with fail
      refine (HDo2.out _ ((Below.refl _ _).alloc (Nat.le_refl _) _)).mono ?_
      rintro e w9 ⟨rfl, hp⟩
      have HP := hide hp
      clear hp
      cases C with
      | true =>
        have HN := hide (HNext.out rfl w9 HP.out)
        have HR1 := hide (hrun.out.succ HC.out)
        go_wp2_with fail
        go_roundw
        case rel => exact ⟨k + 1, by omega, by go_num, HR1, HN⟩
        case measure => simp [intOf]; omega
      | false =>
        have HS := hide (HStop.out w9 HP.out)
        go_wp2_with fail
        refine bodyPost_ret (results_tmp2 rfl _ _ _) rfl ?_
        exact ⟨k, hk, hrun.out, HS.out, .inr ⟨hlt, HC.out, rfl⟩⟩
    · have hkn : k = n := by omega
      subst hkn
      go_wp2_with fail
      refine bodyPost_ret (results_tmp2 rfl _ _ _) rfl ?_
      exact ⟨k, hk, hrun.out, hdom.out, .inl ⟨rfl, rfl⟩⟩
end Go.Proofs.YtobgcaemnpkbmaaGreat
namespace Go.Proofs.YtobgcaemnpkbmaaGreat
open Go.RowKit
def ints (l : List Int) : List Value := l.map fun i => .int .i64 i
theorem ints_length (l : List Int) : (ints l).length = l.length := by unfold ints; simp
theorem ints_app (l : List Int) (i : Int) : ints (l ++ [i]) = ints l ++ [.int .i64 i] := by unfold ints; simp
theorem frozen_heap {w w' : World} {b : Nat} (h : w'.heap[b]? = w.heap[b]?) (o : Nat) : w'.frozen? ⟨b, o, none⟩ = w.frozen? ⟨b, o, none⟩ := by simp only [World.frozen?, h]
set_option maxHeartbeats 2000000 in
set_option maxRecDepth 100000 in
theorem ids_one {w : World} {D NA B : Nat} {v : Value} {xs : List Int} (i : Int) (cD : w.cell? ⟨D, 0, none⟩ = some v) (fD : w.frozen? ⟨D, 0, none⟩ = false) (ci : w.cell? ⟨NA, 0, none⟩ = some (.int .i64 i)) (hD : D < B) (hNA : NA < B) (hB : B ≤ w.heap.size) (hx : xs.length ≤ 800) (hown : w.ownsRow B 3 1 v xs.length (ints xs)) :
    Calls Tryz.prog 69 #[.pointer (some ⟨NA, 0, none⟩), .pointer (some ⟨D, 0, none⟩)] w fun e w' => e = .returned (.tuple #[]) ∧ ∃ v', w'.cell? ⟨D, 0, none⟩ = some v' ∧ w'.frozen? ⟨D, 0, none⟩ = false ∧ w'.ownsRow B 3 1 v' (xs ++ [i]).length (ints (xs ++ [i])) ∧ w.heap.size ≤ w'.heap.size ∧ (∀ b, b < B → b ≠ D → w'.heap[b]? = w.heap[b]?) ∧ w'.os = w.os ∧ w'.tape = w.tape ∧ w'.output = w.output := by
  obtain ⟨i0, hi, hz0, hz1, hz2⟩ := info_parts intInfo
  obtain ⟨ao, c, rfl⟩ := own_shape hown
  have aD : (Value.slice ao xs.length c).ownBlock = none ∨ (Value.slice ao xs.length c).ownBlock ≠ some D := by
    cases hb : (Value.slice ao xs.length c).ownBlock with
    | none => exact .inl rfl
    | some b => right; intro e; have := (hown.lt b hb).1; cases e; omega
  have aN : (Value.slice ao xs.length c).ownBlock = none ∨ (Value.slice ao xs.length c).ownBlock ≠ some NA := by
    cases hb : (Value.slice ao xs.length c).ownBlock with
    | none => exact .inl rfl
    | some b => right; intro e; have := (hown.lt b hb).1; cases e; omega
  have HOwn := hide hown
  clear hown
  go_enter Tryz.func69, Tryz.ntmps69
  have hS0 : (fun w' => w'.frozen? ⟨D, 0, none⟩ = false ∧ w'.cell? ⟨D, 0, none⟩ = some (.slice ao xs.length c) ∧ w'.cell? ⟨NA, 0, none⟩ = some (.int .i64 i)) w.drew := ⟨fD, cD, ci⟩
  refine wp_region_last (S := (fun w' => w'.frozen? ⟨D, 0, none⟩ = false ∧ w'.cell? ⟨D, 0, none⟩ = some (.slice ao xs.length c) ∧ w'.cell? ⟨NA, 0, none⟩ = some (.int .i64 i))) (by kernel_rfl) ?_
  refine wpAnyT_take (i := 0) (v := ?v0) rfl (by kernel_rfl) (by kernel_rfl) (by kernel_rfl) (by kernel_rfl) (fun _ _ _ h => h) (Or.inl ⟨by rfl, ?hy0⟩) hS0 ?r0
  case hy0 => (intro w' hSw; (try dsimp only at hSw); simp only [List.getElem_toArray, List.getElem_cons_zero]; go_simp; try (with_reducible rfl))
  simp only [List.getElem_toArray, List.getElem_cons_zero, Act.put, List.setIfInBounds_toArray, List.set_cons_zero, List.set_cons_succ]
  refine wpAnyT_take (i := 1) (v := ?v1) rfl (by kernel_rfl) (by kernel_rfl) (by kernel_rfl) (by kernel_rfl) (fun _ _ _ h => h) (Or.inl ⟨by rfl, ?hy1⟩) hS0 ?r1
  case hy1 => (intro w' hSw; (try dsimp only at hSw); simp only [List.getElem_toArray, List.getElem_cons_zero, List.getElem_cons_succ]; go_simp; try (with_reducible rfl))
  simp only [List.getElem_toArray, List.getElem_cons_zero, List.getElem_cons_succ, Act.put, List.setIfInBounds_toArray, List.set_cons_zero, List.set_cons_succ]
  refine wpAnyT_take (i := 2) (v := ?v2) rfl (by kernel_rfl) (by kernel_rfl) (by kernel_rfl) (by kernel_rfl) (fun _ _ _ h => h) (Or.inl ⟨by rfl, ?hy2⟩) hS0 ?r2
  case hy2 => (intro w' hSw; (try dsimp only at hSw); simp only [List.getElem_toArray, List.getElem_cons_zero, List.getElem_cons_succ]; go_simp; try (with_reducible rfl))
  simp only [List.getElem_toArray, List.getElem_cons_zero, List.getElem_cons_succ, Act.put, List.setIfInBounds_toArray, List.set_cons_zero, List.set_cons_succ]
  refine wpAnyT_take (i := 3) (v := ?v3) rfl (by kernel_rfl) (by kernel_rfl) (by kernel_rfl) (by kernel_rfl) (fun _ _ _ h => h) (Or.inl ⟨by rfl, ?hy3⟩) hS0 ?r3
  case hy3 => (intro w' hSw; (try dsimp only at hSw); simp only [List.getElem_toArray, List.getElem_cons_zero, List.getElem_cons_succ]; go_simp; try (with_reducible rfl))
  simp only [List.getElem_toArray, List.getElem_cons_zero, List.getElem_cons_succ, Act.put, List.setIfInBounds_toArray, List.set_cons_zero, List.set_cons_succ]
  refine wpAnyT_take (i := 4) (v := ?v4) rfl (by kernel_rfl) (by kernel_rfl) (by kernel_rfl) (by kernel_rfl) (fun _ _ _ h => h) (Or.inl ⟨by rfl, ?hy4⟩) hS0 ?r4
  case hy4 => (intro w' hSw; (try dsimp only at hSw); simp only [List.getElem_toArray, List.getElem_cons_zero, List.getElem_cons_succ]; go_simp; try (with_reducible rfl))
  simp only [List.getElem_toArray, List.getElem_cons_zero, List.getElem_cons_succ, Act.put, List.setIfInBounds_toArray, List.set_cons_zero, List.set_cons_succ]
  refine wpAnyT_one (i := 5) rfl (by kernel_rfl) (by rfl) ?_
  simp only [List.getElem_toArray, List.getElem_cons_zero, List.getElem_cons_succ]
  go_simp
  generalize hw1 : w.alloc (.cells #[.int .i64 i] 3) = w1
  have hb1 : Below w.heap.size w w1 := by rw [← hw1]; exact (Below.refl _ _).alloc (Nat.le_refl _) _
  have s1 : w1.heap.size = w.heap.size + 1 := by rw [← hw1]; simp
  have hnews : ∀ a, some (⟨w.heap.size, 0, none⟩ : Addr) = some a → ∀ j u, [Value.int .i64 i][j]? = some u → w1.cell? (a.add j) = some u := by
    rw [← hw1]
    exact cells_new w #[.int .i64 i] 3
  have p0 := (hb1.cell (p := ⟨D, 0, none⟩) (by simp; omega)).trans cD
  have p1 := (hb1.cell (p := ⟨NA, 0, none⟩) (by simp; omega)).trans ci
  have p2 := (hb1.frozen (p := ⟨D, 0, none⟩) (by simp; omega)).trans fD
  refine ⟨.inr ⟨p2, p0, p1⟩, ?_⟩
  clear hw1 hS0 cD ci fD
  refine wpAnyT_one (i := 6) rfl (by kernel_rfl) (by rfl) ?_
  simp only [List.getElem_toArray, List.getElem_cons_zero, List.getElem_cons_succ]
  refine wp_app w1.drew _ _ 69 (by rfl) B 3 i0 _ 1 8 Tryz.underlying69 hi hz0 hz1 hz2 rfl (.slice ao xs.length c) xs.length (ints xs) (by rfl) (ownsRow_below HOwn.out hb1.drew) (some ⟨w.heap.size, 0, none⟩) 1 1 [.int .i64 i] (by rfl) (by simp) rfl (fun a ha j u hu => hnews a ha j u hu) (by simp [Value.oneCell']) (by omega) (by omega) (show B ≤ w1.heap.size by omega) ?_
  intro v' w2 hrow2 hg2
  obtain ⟨a2, c2, rfl⟩ := own_shape hrow2
  have hav : ∀ b, Value.ownBlock (.slice ao xs.length c) = some b → B ≤ b := fun b e => (HOwn.out.lt b e).1
  have hq2 : ∀ b, b < w1.heap.size → b < B → w2.heap[b]? = w1.heap[b]? := fun b hb hn => hg2.by.block b hb (fun e => by have := hav b e.symm; omega)
  have r0 := (World.cell?_of_block (w := w1) (a := ⟨D, 0, none⟩) (hq2 D (by omega) hD)).trans p0
  have r1 := (World.cell?_of_block (w := w1) (a := ⟨NA, 0, none⟩) (hq2 NA (by omega) hNA)).trans p1
  have r2 := (World.frozen?_of_block (w := w1) (a := ⟨D, 0, none⟩) (hq2 D (by omega) hD)).trans p2
  refine ⟨.inr ⟨r2, r0, r1⟩, ?_⟩
  have HR2 := hide hrow2
  have HG2 := hide hg2
  have HQ2 := hide hq2
  clear hrow2 hg2 hq2 p0 p1 p2 hnews hav
  try simp only [Act.put, List.setIfInBounds_toArray, List.set_cons_zero, List.set_cons_succ]
  refine wpAnyT_one (i := 7) rfl (by kernel_rfl) (by rfl) ?_
  simp only [List.getElem_toArray, List.getElem_cons_zero, List.getElem_cons_succ]
  go_simp
  refine ⟨by kernel_rfl, ?_⟩
  refine wpAnyT_done (by kernel_rfl) ?_ _
  refine bodyPost_end (results_none rfl _ _ _) rfl ⟨rfl, .slice a2 (xs.length + 1) c2, ?_, ?_, ?_, ?_, ?_, ?_, ?_, ?_⟩
  · exact World.cell?_setCell_same _ _ _ r0
  · rw [World.frozen?_setCell]; exact r2
  · rw [ints_app]
    exact own_heap HR2.out fun b eb => Below.heap_setCell _ _ _ _ (fun x => by
      have x : b = D := x
      have := (HR2.out.lt b eb).1
      omega)
  · rw [size_setCell']
    have := HG2.out.size
    have e1 : w1.drew.heap.size = w1.heap.size := rfl
    omega
  · intro b hb hne
    rw [Below.heap_setCell _ _ _ _ (fun x => hne x), HQ2.out b (by omega) hb, hb1.block b (by omega)]
  · exact HG2.out.by.os.trans hb1.os
  · exact HG2.out.by.tape.trans hb1.tape
  · exact HG2.out.by.output.trans hb1.output
theorem nodup_le {R : List RN} (hI : Ids R) {L : List Int} (hn : L.Nodup) (h : ∀ x, x ∈ L → ∃ n, n ∈ R ∧ n.id = x) : L.length ≤ R.length := by
  have := stay_length hI.nodup hn fun x hx => by
    obtain ⟨n, hn, e⟩ := h x hx
    exact List.mem_map.2 ⟨n, hn, e⟩
  omega
def IdsJ (R : List RN) (w : World) (D B : Nat) (done : List Int) (w' : World) : Prop :=
  (done.Nodup ∧ ∀ x, x ∈ done → ∃ n, n ∈ R ∧ n.id = x) ∧ ∃ v, w'.cell? ⟨D, 0, none⟩ = some v ∧ w'.frozen? ⟨D, 0, none⟩ = false ∧ w'.ownsRow B 3 1 v done.length (ints done) ∧ B ≤ w'.heap.size ∧ (∀ b, b < B → b ≠ D → w'.heap[b]? = w.heap[b]?) ∧ w'.os = w.os ∧ w'.tape = w.tape ∧ w'.output = w.output
theorem ids_all {ρ : Roles} {nb : Int → Nat} {mb : Nat} {rt : Option Nat} {w : World} {q : Nat} {R : List RN} {last : Int} {k : Nat} (h : Dom ρ nb mb rt w q R last) (hI : Ids R) (hU : ∃ rk, Up R rk) (hk : k < R.length) {D : Nat} (cD : w.cell? ⟨D, 0, none⟩ = some (.slice none 0 0)) (fD : w.frozen? ⟨D, 0, none⟩ = false) (hD : D < w.heap.size) (hDρ : ρ D = none) :
    Calls Tryz.prog 68 #[.pointer (some ⟨nb R[k].id, 0, none⟩), .func (.func 69) #[] #[.pointer (some ⟨D, 0, none⟩)]] w fun e w' => e = .returned (.tuple #[]) ∧ IdsJ R w D w.heap.size (widP R R.length k) w' := by
  obtain ⟨rk, hU⟩ := hU
  have hfit := fitP_all hU hk
  obtain ⟨KO, KC, hread⟩ := h.kids_read
  have hblk : ∀ b j, (∃ i : Int, ρ b = some (i, j)) → b < w.heap.size ∧ b ≠ D := fun b j hb => by
    obtain ⟨i, e⟩ := hb
    refine ⟨h.low b (by rw [e]; rfl), fun e' => ?_⟩
    rw [e', hDρ] at e
    cases e
  rw [← idAt_lt hk]
  refine (each_ids R nb D (IdsJ R w D w.heap.size) KO KC h.few ?_ ?_ hI.pos R.length k [] w hfit (widP_nodup hU hI hfit) (fun _ _ h => by simp at h) ⟨⟨List.nodup_nil, fun _ h => by simp at h⟩, .slice none 0 0, cD, fD, World.ownsRow_nil _ _ _ _, Nat.le_refl _, fun _ _ _ => rfl, rfl, rfl, rfl⟩ : Calls _ _ _ _ _).mono ?_
  · rintro done w1 ⟨_, v, _, _, _, _, hb, _⟩ n hn
    obtain ⟨h1, h2⟩ := hread n hn
    obtain ⟨av, kv, hP⟩ := h.node n hn
    obtain ⟨l1, l2⟩ := hblk _ 0 ⟨_, hP.role⟩
    refine ⟨(World.cell?_of_block (hb _ l1 l2)).trans h1, fun i x hx => ?_⟩
    obtain ⟨g, e, hg, hc⟩ := h2 i x hx
    obtain ⟨l1, l2⟩ := hblk _ 2 ⟨_, hg⟩
    exact ⟨g, e, (World.cell?_of_block (hb g l1 l2)).trans hc⟩
  · rintro done w1 n hn hno ⟨⟨hnd, hin⟩, v, c1, f1, o1, s1, hb, ho1, ho2, ho3⟩
    obtain ⟨av, kv, hP⟩ := h.node n hn
    obtain ⟨l1, l2⟩ := hblk _ 0 ⟨_, hP.role⟩
    have hfew := h.few
    have hlen := nodup_le hI hnd hin
    refine (ids_one n.id c1 f1 ((World.cell?_of_block (hb _ l1 l2)).trans (cell_of_blk hP.blk 0 _ rfl)) hD l1 s1 (by omega) o1).mono ?_
    rintro e w2 ⟨rfl, v2, c2, f2, o2, s2, hb2, p1, p2, p3⟩
    refine ⟨rfl, ⟨?_, fun x hx => ?_⟩, v2, c2, f2, o2, by omega, fun b hb' hne => (hb2 b hb' hne).trans (hb b hb' hne), p1.trans ho1, p2.trans ho2, p3.trans ho3⟩
    · rw [List.nodup_append]
      exact ⟨hnd, by simp, fun a ha b hb e => by rw [List.mem_singleton.1 hb] at e; exact hno (e ▸ ha)⟩
    · rcases List.mem_append.1 hx with hx | hx
      · exact hin x hx
      · exact ⟨n, hn, (List.mem_singleton.1 hx).symm⟩
  · rintro e w' ⟨rfl, hj⟩
    rw [List.nil_append] at hj
    exact ⟨rfl, hj⟩
set_option maxHeartbeats 2000000 in
set_option maxRecDepth 100000 in
theorem pids_any (ρ : Roles) (nb : Int → Nat) (mb : Nat) (w : World) (q : Nat) (R : List RN) (last : Int) (h : Dom ρ nb mb (some (nb 1)) w q R last) (hok : DocOk R last) (r : Nat) (hr : r < R.length) (hr1 : R[r].id = 1) :
    Calls Tryz.prog 51 #[.pointer (some ⟨q, 0, none⟩)] w fun e w' => ∃ v, e = .returned v ∧ w'.ownsRow w.heap.size 3 1 v (widP R R.length r).length (ints (widP R R.length r)) ∧ Below w.heap.size w w' := by
  have d0 : w.cell? ⟨q, 0, none⟩ = some (.pointer (some ⟨nb 1, 0, none⟩)) := cell_of_blk h.blk 0 _ rfl
  have ltq := lt_of_blk h.blk
  have HAll : Hid (∀ w1, Below w.heap.size w w1 → w1.cell? ⟨w.heap.size, 0, none⟩ = some (.slice none 0 0) → w1.frozen? ⟨w.heap.size, 0, none⟩ = false → w.heap.size < w1.heap.size → Calls Tryz.prog 68 #[.pointer (some ⟨nb 1, 0, none⟩), .func (.func 69) #[] #[.pointer (some ⟨w.heap.size, 0, none⟩)]] w1 fun e w' => e = .returned (.tuple #[]) ∧ IdsJ R w1 w.heap.size w1.heap.size (widP R R.length r) w') := hide fun w1 hb c1 f1 s1 => by
    rw [← hr1]
    refine ids_all (h.below hb) hok.ids hok.up hr c1 f1 s1 ?_
    cases hρ : ρ w.heap.size with
    | none => rfl
    | some x => have := h.low w.heap.size (by rw [hρ]; rfl); omega
  clear h hok hr1
  go_enter Tryz.func51, Tryz.ntmps51
  go_wp2_with fail
  generalize hw0 : w.alloc (.cells #[.slice none 0 0] 69) = w0
  have hb0 : Below w.heap.size w w0 := by rw [← hw0]; exact (Below.refl _ _).alloc (Nat.le_refl _) _
  have lt0 : w.heap.size < w0.heap.size := by rw [← hw0]; simp
  have c0 : w0.cell? ⟨w.heap.size, 0, none⟩ = some (.slice none 0 0) := by rw [← hw0]; simp [go_sem]
  have f0 : w0.frozen? ⟨w.heap.size, 0, none⟩ = false := by rw [← hw0]; simp [go_sem]
  clear hw0
  refine (HAll.out w0 hb0 c0 f0 lt0).mono ?_
  rintro e w2 ⟨rfl, _, v, c2, f2, o2, s2, hb2, p1, p2, p3⟩
  obtain ⟨ao, c, rfl⟩ := own_shape o2
  have HO := hide o2
  have HB2 := hide hb2
  clear o2 hb2 f2
  go_wp2_with fail
  go_ret
  refine ⟨_, rfl, own_ge HO.out hb0.size, p1.trans hb0.os, p2.trans hb0.tape, p3.trans hb0.output, by omega, fun b hb => ?_⟩
  exact (HB2.out b (by omega) (by omega)).trans (hb0.block b hb)
end Go.Proofs.YtobgcaemnpkbmaaGreat
namespace Go.Proofs.YtobgcaemnpkbmaaGreat
open Go.RowKit
set_option maxHeartbeats 2000000 in
set_option maxRecDepth 100000 in
theorem ploose_any (ρ : Roles) (nb : Int → Nat) (mb : Nat) (w : World) (q : Nat) (R : List RN) (last : Int) (h : Dom ρ nb mb (some (nb 1)) w q R last) (hok : DocOk R last) (r : Nat) (hr : r < R.length) (hr1 : R[r].id = 1) :
    Calls Tryz.prog 52 #[.pointer (some ⟨q, 0, none⟩)] w fun e w' => e = .returned (.int .i64 ((R.length : Int) - ((widP R R.length r).length : Int))) ∧ Below w.heap.size w w' := by
  have d1 : w.cell? ⟨q, 1, none⟩ = some (.map (some mb)) := cell_of_blk h.blk 1 _ rfl
  have hlen : ∀ ty, (Builtin.len_ #[111] ty #[.map (some mb)]).run Tryz.prog w = .ok (.int .i64 R.length) w := fun ty => h.map.len ty
  have HIds := hide (pids_any ρ nb mb w q R last h hok r hr hr1)
  have hN : R.length ≤ 800 := h.few
  have hM : (widP R R.length r).length ≤ 800 := by
    obtain ⟨rk, hU⟩ := hok.up
    have hfit := fitP_all hU hr
    refine Nat.le_trans (nodup_le hok.ids (widP_nodup hU hok.ids hfit) fun x hx => ?_) hN
    obtain ⟨y, hy, e⟩ := widP_mem.1 hx
    have hl := (walk_up hok.ids _ _ _ hfit y hy).1
    exact ⟨R[y.1], List.getElem_mem hl, by rw [← e, idAt_lt hl]⟩
  clear h hok hr1
  generalize widP R R.length r = L at *
  generalize hNN : R.length = N at *
  generalize hMM : L.length = M at *
  clear hNN
  go_enter Tryz.func52, Tryz.ntmps52
  go_wp2_with (first | (go_at_call 51; refine (unhide HIds).mono ?_; rintro e w1 ⟨v, rfl, ho, hb⟩; obtain ⟨ao, c, rfl⟩ := own_shape ho; have HB := hide hb; clear ho hb))
  go_ret
  refine ⟨?_, HB.out⟩
  go_num
end Go.Proofs.YtobgcaemnpkbmaaGreat
namespace Go.Proofs.YtobgcaemnpkbmaaGreat
open Go.RowKit
def allN (Ns : List (Value × List TN)) : List TN := Ns.flatMap (·.2)
theorem tellOf_app (M N : List TN) : tellOf (M ++ N) = tellOf M ++ tellOf N := by unfold tellOf; rw [List.flatMap_append]
theorem tellOf_one (N : List TN) : ∀ u ∈ tellOf N, u.oneCell' = true := fun u hu => by
  obtain ⟨n, _, h⟩ := List.mem_flatMap.1 hu
  exact n.cells_one u h
theorem allN_take {Ns : List (Value × List TN)} {j : Nat} (hj : j < Ns.length) : allN (Ns.take (j + 1)) = allN (Ns.take j) ++ Ns[j].2 := by
  unfold allN
  rw [List.take_succ_eq_append_getElem hj, List.flatMap_append]
  simp
theorem allN_le {Ns : List (Value × List TN)} (j : Nat) : (allN (Ns.take j)).length ≤ (allN Ns).length := by
  unfold allN
  conv => rhs; rw [← List.take_append_drop j Ns, List.flatMap_append, List.length_append]
  omega
set_option maxHeartbeats 2000000 in
set_option maxRecDepth 100000 in
theorem join_any (B : Nat) (w : World) (n0 : TN) (po : Option Addr) (pc : Nat) (Ns : List (Value × List TN)) (m : Nat) (hN : Ns.length = m) (hB : B ≤ w.heap.size) (hcell : ∀ j, (hj : j < Ns.length) → ∃ pb, po = some ⟨pb, 0, none⟩ ∧ w.cell? ⟨pb, j, none⟩ = some Ns[j].1) (hpb : ∀ a, po = some a → a.block < w.heap.size) (htell : ∀ j, (hj : j < Ns.length) → TellAt B w Ns[j].1 Ns[j].2) (h0 : n0.Ok B w (.slice none 0 0)) (hfar : (n0 :: allN Ns).Pairwise fun m n => n.av.ownBlock = none ∨ n.av.ownBlock ≠ m.av.ownBlock) (hlen : (allN Ns).length ≤ 1000000) (hm : m ≤ 1000000) :
    Calls Tryz.prog 84 #[.agg #[.int .i64 n0.d, .string n0.tag, .int .i64 n0.key, .slice n0.ao n0.an n0.ac, .string n0.text], .slice po m pc] w fun e w' => ∃ q, e = .returned q ∧ TellAt B w' q (n0 :: allN Ns) ∧ Below w.heap.size w w' ∧ ∀ b, q.ownBlock = some b → w.heap.size ≤ b := by
  obtain ⟨i0, hi, hz0, hz1, hz2⟩ := info_parts nodeInfo'
  have HFin : Hid (∀ (w' : World) (v : Value), w'.ownsRow w.heap.size 33 5 v (n0 :: allN Ns).length (tellOf (n0 :: allN Ns)) → Below w.heap.size w w' → TellAt B w' v (n0 :: allN Ns) ∧ Below w.heap.size w w' ∧ ∀ b, v.ownBlock = some b → w.heap.size ≤ b) := hide fun w' v hrow hb => by
    refine ⟨⟨own_ge hrow hB, fun n hn => ?_, hfar⟩, hb, fun b e => (hrow.lt b e).1⟩
    have hok : ∃ q, n.Ok B w q := by
      rcases List.mem_cons.1 hn with rfl | hn
      · exact ⟨_, h0⟩
      · obtain ⟨p, hp, hn⟩ := List.mem_flatMap.1 hn
        obtain ⟨j, hj, rfl⟩ := List.getElem_of_mem hp
        exact ⟨_, (htell j hj).node n hn⟩
    obtain ⟨q, hok⟩ := hok
    refine ⟨hok.an, hok.tag, hok.text, ownsRow_below hok.row hb, hok.size, ?_⟩
    cases hv : n.av.ownBlock with
    | none => exact .inl rfl
    | some b =>
      right
      intro e
      have h1 := (hok.row.lt b hv).2
      have h2 := (hrow.lt b e.symm).1
      omega
  have HCell := hide hcell
  have HPb := hide hpb
  have HTell := hide htell
  clear hcell hpb htell h0 hfar
  have HN := hide hN
  clear hN
  go_enter Tryz.func84, Tryz.ntmps84
  go_wp2_with fail
  generalize hw0 : World.alloc (World.alloc _ _) _ = w0
  have hb0 : Below w.heap.size w w0 := by rw [← hw0]; exact ((Below.refl _ _).alloc (Nat.le_refl _) _).alloc (by simp) _
  have lt0 : w0.heap.size = w.heap.size + 1 + 1 := by rw [← hw0]; simp
  have hr0 : w0.ownsRow w.heap.size 33 5 (.slice (some ⟨w.heap.size + 1, 0, none⟩) 1 1) 1 (tellOf [n0]) := by
    refine ⟨rfl, .inr ⟨w.heap.size + 1, 1, #[.int .i64 n0.d, .string n0.tag, .int .i64 n0.key, .slice n0.ao n0.an n0.ac, .string n0.text], rfl, by omega, ?_, Nat.le_refl _, by decide, rfl, rfl⟩⟩
    have e1 : (w.alloc (.cells #[.int .i64 n0.d, .string n0.tag, .int .i64 n0.key, .slice n0.ao n0.an n0.ac, .string n0.text] 33)).heap.size = w.heap.size + 1 := by simp
    have e2 := heap_alloc_new (w.alloc (.cells #[.int .i64 n0.d, .string n0.tag, .int .i64 n0.key, .slice n0.ao n0.an n0.ac, .string n0.text] 33)) (.cells #[.int .i64 n0.d, .string n0.tag, .int .i64 n0.key, .slice n0.ao n0.an n0.ac, .string n0.text] 33)
    rw [e1] at e2
    rw [← hw0]
    exact e2
  have HR0 := hide hr0
  have HB0 := hide hb0
  clear hw0 hr0 hb0
  go_loopw [5, 7, 12] (fun l _ i wr => ∃ (j : Nat) (v : Value), j ≤ m ∧ v = l ∧ i = .int .i64 j ∧ Hid (wr.ownsRow w.heap.size 33 5 v (n0 :: allN (Ns.take j)).length (tellOf (n0 :: allN (Ns.take j)))) ∧ Hid (Below w.heap.size w wr)) (fun _ _ i _ => m - (intOf i).toNat)
  case atStart => exact ⟨0, _, Nat.zero_le _, rfl, rfl, HR0, HB0⟩
  case round =>
    obtain ⟨j, v, hj, rfl, rfl, hrow, hbel⟩ := hrel
    by_cases hlt : j < m
    · have hjl : j < Ns.length := by have := HN.out; omega
      obtain ⟨pb, hpo, cj⟩ := HCell.out j hjl
      have hpl := HPb.out _ hpo
      subst hpo
      have dj : wr.cell? ⟨pb, j, none⟩ = some Ns[j].1 := (hbel.out.cell (p := ⟨pb, j, none⟩) hpl).trans cj
      have hT := (HTell.out j hjl).row
      obtain ⟨ao, ac, hq⟩ := own_shape hT
      rw [hq] at dj hT
      have hji : (j : Int) < (m : Int) := by omega
      have hNj : (allN (Ns.take j)).length + Ns[j].2.length ≤ 1000000 := by
        have := allN_le (Ns := Ns) (j + 1)
        rw [allN_take hjl, List.length_append] at this
        omega
      have HNews : Hid (∀ a, ao = some a → ∀ k u, (tellOf Ns[j].2)[k]? = some u → wr.cell? (a.add k) = some u) := hide fun a ha k u hu => by
        have hk := (List.getElem?_eq_some_iff.1 hu).1
        rw [hT.1] at hk
        rcases hT.2 with ⟨e, _⟩ | ⟨g, cap, cur, e, _⟩
        · rw [ha] at e; cases e
        · rw [ha] at e
          have e := (Value.slice.inj e).1
          have e := Option.some.inj e
          subst e
          rw [ha] at hT
          have hTb := ownsRow_below hT hbel.out
          have := hTb.cellAt k hk
          rw [hu] at this
          have e3 : (⟨g, 0, none⟩ : Addr).add k = ⟨g, k, none⟩ := by
            by_cases hk0 : k = 0
            · subst hk0; simp [Addr.add]
            · simp [Addr.add, hk0]
          rw [e3]
          exact this
      have HNone : Hid (ao = none → Ns[j].2.length = 0 ∧ ac = 0) := hide fun e => by
        rcases hT.2 with ⟨e1, e2⟩ | ⟨g, cap, cur, e1, _⟩
        · exact ⟨e2, (Value.slice.inj e1).2.2⟩
        · rw [e] at e1; cases (Value.slice.inj e1).1
      have HL : Hid ((tellOf Ns[j].2).length = Ns[j].2.length * 5) := hide (tellOf_length _)
      have hsz := hbel.out.size
      have hl1 : (n0 :: allN (Ns.take j)).length = (allN (Ns.take j)).length + 1 := rfl
      have HE : Hid (tellOf (n0 :: allN (Ns.take j)) ++ tellOf Ns[j].2 = tellOf (n0 :: allN (Ns.take (j + 1))) ∧ (n0 :: allN (Ns.take j)).length + Ns[j].2.length = (n0 :: allN (Ns.take (j + 1))).length) := hide (by
        rw [allN_take hjl, ← tellOf_app]
        refine ⟨rfl, ?_⟩
        rw [← List.cons_append, List.length_append])
      have hlong : (n0 :: allN (Ns.take j)).length + Ns[j].2.length ≤ 1000001 := by rw [hl1]; omega
      clear hT hq cj hl1 hNj
      have HOne := hide (tellOf_one Ns[j].2)
      generalize Ns[j].2 = Nj at *
      generalize (n0 :: allN (Ns.take j)).length = LN at *
      generalize Nj.length = LJ at *
      go_wp2_with (first | (at_builtin; refine wpList_app _ rfl (.tmp 16) (.tmp 17) 24 rfl w.heap.size 33 i0 _ 5 72 Tryz.underlying24 hi hz0 hz1 hz2 rfl v LN _ rfl (unhide hrow) ao LJ ac (tellOf Nj) rfl (unhide HNone) (unhide HL) (unhide HNews) (unhide HOne) (by omega) (by omega) (by omega) ?_; intro v2 w2 ho2 hg2 _))
      refine ⟨⟨j + 1, v2, by omega, rfl, by go_num, hide (by rw [← HE.out.1, ← HE.out.2]; exact ho2.out), hide ?_⟩, by simp [intOf]; omega⟩
      exact hbel.out.grown hg2.out.by hsz (fun b hb => (hrow.out.lt b hb).1)
    · have hjm : j = m := by omega
      subst hjm
      have HR : Hid (wr.ownsRow w.heap.size 33 5 v (n0 :: allN Ns).length (tellOf (n0 :: allN Ns))) := by
        rw [← HN.out, List.take_length] at hrow
        exact hrow
      have HF := hide (HFin.out wr v HR.out hbel.out)
      go_wp2_with fail
      go_ret
      exact ⟨_, rfl, HF.out⟩
end Go.Proofs.YtobgcaemnpkbmaaGreat
