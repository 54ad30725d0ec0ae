/-
  The law 'Checked' walked: it answers true.
-/
import Derived.Test.YtobgcaemnpkbmaaLaw
import Derived.Test.YtobgcaemnpkbmaaBchk
namespace Go.Proofs.Ytobgcaemnpkbmaa
open Go.RowKit

/-- The small tree that the law begins with. -/
def smallL (i : Nat) : Nod := if i = 0 then ⟨0, ⟨#[97]⟩, 0, none, 0, 0, ⟨#[]⟩, fun _ => ⟨#[]⟩, fun _ => ⟨#[]⟩⟩ else ⟨1, ⟨#[]⟩, 0, none, 0, 0, ⟨#[120]⟩, fun _ => ⟨#[]⟩, fun _ => ⟨#[]⟩⟩
theorem small_out : checkOut (mayB smallL) 2 = (0, 0) := by decide +kernel

theorem small_le {k : Nat} (h : k ≤ 1) : k ≤ maxLen := by unfold maxLen; omega

theorem small_check (w : World) :
    Calls Try.prog 7 #[.slice (some ⟨w.heap.size, 0, none⟩) 2 2]
      (w.alloc (.cells #[.int .i64 0, .string ⟨#[97]⟩, .int .i64 0, .slice none 0 0, .string ⟨#[]⟩, .int .i64 1, .string ⟨#[]⟩, .int .i64 0, .slice none 0 0, .string ⟨#[120]⟩] 28))
      fun e w' => e = .returned (.tuple #[.int .i64 0, .int .i64 0]) ∧ Below w.heap.size w w' := by
  have hal : Below w.heap.size w (w.alloc (.cells #[.int .i64 0, .string ⟨#[97]⟩, .int .i64 0, .slice none 0 0, .string ⟨#[]⟩, .int .i64 1, .string ⟨#[]⟩, .int .i64 0, .slice none 0 0, .string ⟨#[120]⟩] 28)) := (Below.refl _ _).alloc (Nat.le_refl _) _
  have hL : ListAt (w.alloc (.cells #[.int .i64 0, .string ⟨#[97]⟩, .int .i64 0, .slice none 0 0, .string ⟨#[]⟩, .int .i64 1, .string ⟨#[]⟩, .int .i64 0, .slice none 0 0, .string ⟨#[120]⟩] 28)) (some ⟨w.heap.size, 0, none⟩) 2 smallL := by
    intro _
    refine ⟨w.heap.size, 0, rfl, by simp, fun i hi => ?_⟩
    match i, hi with
    | 0, _ => exact ⟨by simp [go_sem, smallL], by simp [go_sem, smallL], by simp [go_sem, smallL], by simp [go_sem, smallL], by simp [go_sem, smallL], ⟨by simp [smallL], small_le (by decide), small_le (by decide), fun j hj => absurd hj (by simp [smallL])⟩⟩
    | 1, _ => exact ⟨by simp [go_sem, smallL], by simp [go_sem, smallL], by simp [go_sem, smallL], by simp [go_sem, smallL], by simp [go_sem, smallL], ⟨by simp [smallL], small_le (by decide), small_le (by decide), fun j hj => absurd hj (by simp [smallL])⟩⟩
  have hc := check_any (some ⟨w.heap.size, 0, none⟩) 2 2 smallL _ (by unfold maxLen; omega) hL
  rw [small_out] at hc
  exact hc.mono fun e w' ⟨he, hb⟩ => ⟨he, hal.trans (hb.mono (by simp))⟩

theorem nil_check (w : World) : Calls Try.prog 7 #[.slice none 0 0] w fun e w' => e = .returned (.tuple #[.int .i64 1, .int .i64 0]) ∧ Below w.heap.size w w' := by
  have hc := check_any none 0 0 smallL w (by unfold maxLen; omega) (fun h => absurd h (Nat.lt_irrefl _))
  rw [none_out] at hc
  exact hc

theorem lent_check (ao : Option Addr) (n : Nat) (L : Nat → Nod) (G : Nat → Nat) (W w : World) (hn : n * 72 ≤ 140737488351232) (h : ListAt W ao n L) (hin : In L n)
    (hr : w.rowIs W.heap.size 28 ((n + 3) * 5) (nodesCell (lentN L G n))) (hR : RowsAt w L G W.heap.size n) :
    Calls Try.prog 7 #[.slice (lentAo ao W.heap.size) (lentLen ao n) (lentCap ao n)] w fun e w' => e = .returned (.tuple #[.int .i64 (checkOut (mayB L) n).1, .int .i64 (checkOut (mayB L) n).2]) ∧ Below w.heap.size w w' := by
  cases ao with
  | none =>
    have h0 : n = 0 := by
      apply Classical.byContradiction
      intro hc
      obtain ⟨_, _, e, _⟩ := h (by omega)
      cases e
    subst h0
    rw [none_out]
    exact nil_check w
  | some ad =>
    have hc := check_any (some ⟨W.heap.size, 0, none⟩) n (n + 3) (lentN L G n) w (by unfold maxLen; omega) (lent_list h hin hr hR)
    rw [check_lent] at hc
    exact hc

set_option maxRecDepth 100000 in
set_option maxHeartbeats 1000000 in
theorem checked_any (ao : Option Addr) (n c : Nat) (L : Nat → Nod) (w : World) (hn : n * 72 ≤ 140737488351232) (h : ListAt w ao n L) (hin : In L n) :
    Calls Try.prog 3 #[.slice ao n c] w fun e w' => e = .returned (.bool true) ∧ Below w.heap.size w w' := by
  have H := hide h
  have HI := hide hin
  clear h hin
  go_enter Try.func3, Try.ntmps3
  go_wp2_with fail
  refine (small_check w).mono ?_
  rintro e w1 ⟨rfl, hb1⟩
  go_wp2_with fail
  refine (nil_check w1).mono ?_
  rintro e w2 ⟨rfl, hb2⟩
  have hbw2 := hb1.trans (hb2.mono hb1.size)
  have H2 := hide (H.out.below hbw2)
  clear hb1 hb2
  go_wp2_with fail
  refine (nodes_any ao n c L w2 hn (unhide H2) (unhide HI)).mono ?_
  rintro e w3 ⟨rfl, hb3, G, hr3, hR3⟩
  have Hr := hide hr3
  have HR := hide hR3
  clear hr3 hR3
  go_wp2_with fail
  refine (lent_any ao w2.heap.size n c w3 (by omega)).mono ?_
  rintro e w4 ⟨rfl, rfl⟩
  go_wp2_with fail
  refine (lent_check ao n L G w2 _ hn (unhide H2) (unhide HI) (unhide Hr) (unhide HR)).mono ?_
  rintro e w5 ⟨rfl, hb5⟩
  obtain ⟨hG, hW⟩ := whole_of (unhide Hr) (unhide HR) hb3 hb5
  have HG := hide hG
  have HW := hide hW
  clear hG hW
  go_wp2_with fail
  refine (whole_any w2 ao n c L G _ hn (unhide H2) (unhide HI) (unhide HG) (unhide HW)).mono ?_
  rintro e w6 ⟨rfl, hb6, _⟩
  have H6 := hide (H2.out.below hb6)
  go_wp2_with fail
  refine (refCheck_any ao n c L w6 (by unfold maxLen; omega) (unhide H6)).mono ?_
  rintro e w7 ⟨rfl, hb7⟩
  go_wp2_with (go_at_call 12; refine (num_any _ _).mono ?_; rintro e w' ⟨rfl, rfl⟩)
  go_ret
  exact ⟨rfl, hbw2.trans ((hb6.trans (hb7.mono hb6.size)).mono hbw2.size)⟩

end Go.Proofs.Ytobgcaemnpkbmaa
