/- DoF -/
import Derived.Test.YtobgcaemnpkbmaaGreatD07
namespace Go.Proofs.YtobgcaemnpkbmaaGreat
open Go.RowKit
attribute [local go_sem ↓] Go.wp_at_zero Go.wp_at_succ
set_option maxRecDepth 100000 in
set_option maxHeartbeats 4000000 in
theorem do_none (S : Nat → Prop) (p : Nat) (R : List RN) (last : Int) (v : Value) (kd id pa bf ky : Int) (tg nm tx : ByteArray) (w : World) (h : RefAt S w p R last v) (hk1 : (kd == 1) = false) (ha : atP R id = -1) :
    Calls Tryz.prog 37 #[.pointer (some ⟨p, 0, none⟩), .agg #[.int .i64 kd, .int .i64 id, .int .i64 pa, .int .i64 bf, .int .i64 ky, .string tg, .string nm, .string tx]] w fun e w' => e = .returned (.bool false) ∧ Below w.heap.size w w' := by
  have hfew := h.few
  have hp := h.lt
  have c0 := h.c0
  have c1 := h.c1
  have HR := hide h
  obtain ⟨ao, cap, rfl⟩ := h.nil
  have hA : ∀ w', RefAt S w' p R last (.slice ao R.length cap) → Calls Tryz.prog 49 #[.pointer (some ⟨p, 0, none⟩), .int .i64 id] w' fun e w'' => e = .returned (.int .i64 (-1)) ∧ w'' = w' := by
    intro w' hw
    rw [← ha]
    exact at_any S p R last _ id w' hw
  have HA := hide hA
  clear hA ha
  clear h
  go_enter Tryz.func37, Tryz.ntmps37
  go_wp2_with (first | (go_at_call 49; refine (unhide HA _ ((unhide HR).below ((Below.refl _ _).alloc (Nat.le_refl _) _))).mono ?_; rintro e w1 ⟨rfl, rfl⟩))
  go_ret
  exact ⟨rfl, ((Below.refl _ _).alloc (Nat.le_refl _) _)⟩
set_option maxRecDepth 100000 in
set_option maxHeartbeats 4000000 in
theorem do_key (S : Nat → Prop) (p : Nat) (R : List RN) (last : Int) (v : Value) (kd id pa bf ky : Int) (tg nm tx : ByteArray) (w : World) (h : RefAt S w p R last v) (hk1 : (kd == 1) = false) (k : Nat) (_hk : k < R.length) (ha : atP R id = (k : Int)) (hky : (ky != 0) = true) :
    Calls Tryz.prog 37 #[.pointer (some ⟨p, 0, none⟩), .agg #[.int .i64 kd, .int .i64 id, .int .i64 pa, .int .i64 bf, .int .i64 ky, .string tg, .string nm, .string tx]] w fun e w' => e = .returned (.bool false) ∧ Below w.heap.size w w' := by
  have hfew := h.few
  have hp := h.lt
  have c0 := h.c0
  have c1 := h.c1
  have HR := hide h
  obtain ⟨ao, cap, rfl⟩ := h.nil
  have hA : ∀ w', RefAt S w' p R last (.slice ao R.length cap) → Calls Tryz.prog 49 #[.pointer (some ⟨p, 0, none⟩), .int .i64 id] w' fun e w'' => e = .returned (.int .i64 k) ∧ w'' = w' := by
    intro w' hw
    rw [← ha]
    exact at_any S p R last _ id w' hw
  have HA := hide hA
  clear hA ha
  clear h
  go_enter Tryz.func37, Tryz.ntmps37
  go_wp2_with (first | (go_at_call 49; refine (unhide HA _ ((unhide HR).below ((Below.refl _ _).alloc (Nat.le_refl _) _))).mono ?_; rintro e w1 ⟨rfl, rfl⟩))
  go_ret
  exact ⟨rfl, ((Below.refl _ _).alloc (Nat.le_refl _) _)⟩
set_option maxRecDepth 100000 in
set_option maxHeartbeats 4000000 in
theorem do_tag (S : Nat → Prop) (p : Nat) (R : List RN) (last : Int) (v : Value) (kd id pa bf ky : Int) (tg nm tx : ByteArray) (w : World) (h : RefAt S w p R last v) (hk1 : (kd == 1) = false) (k : Nat) (_hk : k < R.length) (ha : atP R id = (k : Int)) (hky : (ky != 0) = false) (htg : tg.toList.isEmpty = false) :
    Calls Tryz.prog 37 #[.pointer (some ⟨p, 0, none⟩), .agg #[.int .i64 kd, .int .i64 id, .int .i64 pa, .int .i64 bf, .int .i64 ky, .string tg, .string nm, .string tx]] w fun e w' => e = .returned (.bool false) ∧ Below w.heap.size w w' := by
  have hfew := h.few
  have hp := h.lt
  have c0 := h.c0
  have c1 := h.c1
  have HR := hide h
  obtain ⟨ao, cap, rfl⟩ := h.nil
  have hA : ∀ w', RefAt S w' p R last (.slice ao R.length cap) → Calls Tryz.prog 49 #[.pointer (some ⟨p, 0, none⟩), .int .i64 id] w' fun e w'' => e = .returned (.int .i64 k) ∧ w'' = w' := by
    intro w' hw
    rw [← ha]
    exact at_any S p R last _ id w' hw
  have HA := hide hA
  clear hA ha
  clear h
  go_enter Tryz.func37, Tryz.ntmps37
  go_wp2_with (first | (go_at_call 49; refine (unhide HA _ ((unhide HR).below ((Below.refl _ _).alloc (Nat.le_refl _) _))).mono ?_; rintro e w1 ⟨rfl, rfl⟩))
  go_ret
  exact ⟨rfl, ((Below.refl _ _).alloc (Nat.le_refl _) _)⟩
set_option maxRecDepth 100000 in
set_option maxHeartbeats 4000000 in
theorem do_par (S : Nat → Prop) (p : Nat) (R : List RN) (last : Int) (v : Value) (kd id pa bf ky : Int) (tg nm tx : ByteArray) (w : World) (h : RefAt S w p R last v) (hk1 : (kd == 1) = false) (k : Nat) (hk : k < R.length) (ha : atP R id = (k : Int)) (hky : (ky != 0) = false) (htg : tg.toList.isEmpty = true) (hk2 : (kd != 2) = true) (hpa : (pa != 0) = true) :
    Calls Tryz.prog 37 #[.pointer (some ⟨p, 0, none⟩), .agg #[.int .i64 kd, .int .i64 id, .int .i64 pa, .int .i64 bf, .int .i64 ky, .string tg, .string nm, .string tx]] w fun e w' => e = .returned (.bool false) ∧ Below w.heap.size w w' := by
  have hfew := h.few
  have hp := h.lt
  have c0 := h.c0
  have c1 := h.c1
  have HR := hide h
  obtain ⟨g, cap, rfl, hcc, hg, hSg, hgp, hcell⟩ := h.at (by omega)
  have n0 : w.cell? ⟨g, k * 6, none⟩ = some (.int .i64 R[k].id) := hcell k 0 hk (by omega)
  have n1 : w.cell? ⟨g, k * 6 + 1, none⟩ = some (.int .i64 R[k].par) := hcell k 1 hk (by omega)
  have n2 : w.cell? ⟨g, k * 6 + 2, none⟩ = some (.string R[k].tag) := hcell k 2 hk (by omega)
  have n3 : w.cell? ⟨g, k * 6 + 3, none⟩ = some (.int .i64 R[k].key) := hcell k 3 hk (by omega)
  have n4 : w.cell? ⟨g, k * 6 + 4, none⟩ = some (.slice R[k].ao R[k].an R[k].ac) := hcell k 4 hk (by omega)
  have n5 : w.cell? ⟨g, k * 6 + 5, none⟩ = some (.string R[k].text) := hcell k 5 hk (by omega)
  have hA : ∀ w', RefAt S w' p R last (.slice (some ⟨g, 0, none⟩) R.length cap) → Calls Tryz.prog 49 #[.pointer (some ⟨p, 0, none⟩), .int .i64 id] w' fun e w'' => e = .returned (.int .i64 k) ∧ w'' = w' := by
    intro w' hw
    rw [← ha]
    exact at_any S p R last _ id w' hw
  have HA := hide hA
  clear hA ha
  clear h hcell
  generalize R[k] = nd at *
  go_enter Tryz.func37, Tryz.ntmps37
  go_wp2_with (first | (go_at_call_of 49 (Value.int IntKind.i64 id); refine (unhide HA _ ((unhide HR).below ((Below.refl _ _).alloc (Nat.le_refl _) _))).mono ?_; rintro e w1 ⟨rfl, rfl⟩))
  go_ret
  exact ⟨rfl, (((Below.refl _ _).alloc (Nat.le_refl _) _).alloc (by simp) _)⟩
set_option maxRecDepth 100000 in
set_option maxHeartbeats 4000000 in
theorem do_bef (S : Nat → Prop) (p : Nat) (R : List RN) (last : Int) (v : Value) (kd id pa bf ky : Int) (tg nm tx : ByteArray) (w : World) (h : RefAt S w p R last v) (hk1 : (kd == 1) = false) (k : Nat) (hk : k < R.length) (ha : atP R id = (k : Int)) (hky : (ky != 0) = false) (htg : tg.toList.isEmpty = true) (hk2 : (kd != 2) = true) (hpa : (pa != 0) = false) (hbf : (bf != 0) = true) :
    Calls Tryz.prog 37 #[.pointer (some ⟨p, 0, none⟩), .agg #[.int .i64 kd, .int .i64 id, .int .i64 pa, .int .i64 bf, .int .i64 ky, .string tg, .string nm, .string tx]] w fun e w' => e = .returned (.bool false) ∧ Below w.heap.size w w' := by
  have hfew := h.few
  have hp := h.lt
  have c0 := h.c0
  have c1 := h.c1
  have HR := hide h
  obtain ⟨g, cap, rfl, hcc, hg, hSg, hgp, hcell⟩ := h.at (by omega)
  have n0 : w.cell? ⟨g, k * 6, none⟩ = some (.int .i64 R[k].id) := hcell k 0 hk (by omega)
  have n1 : w.cell? ⟨g, k * 6 + 1, none⟩ = some (.int .i64 R[k].par) := hcell k 1 hk (by omega)
  have n2 : w.cell? ⟨g, k * 6 + 2, none⟩ = some (.string R[k].tag) := hcell k 2 hk (by omega)
  have n3 : w.cell? ⟨g, k * 6 + 3, none⟩ = some (.int .i64 R[k].key) := hcell k 3 hk (by omega)
  have n4 : w.cell? ⟨g, k * 6 + 4, none⟩ = some (.slice R[k].ao R[k].an R[k].ac) := hcell k 4 hk (by omega)
  have n5 : w.cell? ⟨g, k * 6 + 5, none⟩ = some (.string R[k].text) := hcell k 5 hk (by omega)
  have hA : ∀ w', RefAt S w' p R last (.slice (some ⟨g, 0, none⟩) R.length cap) → Calls Tryz.prog 49 #[.pointer (some ⟨p, 0, none⟩), .int .i64 id] w' fun e w'' => e = .returned (.int .i64 k) ∧ w'' = w' := by
    intro w' hw
    rw [← ha]
    exact at_any S p R last _ id w' hw
  have HA := hide hA
  clear hA ha
  clear h hcell
  generalize R[k] = nd at *
  go_enter Tryz.func37, Tryz.ntmps37
  go_wp2_with (first | (go_at_call_of 49 (Value.int IntKind.i64 id); refine (unhide HA _ ((unhide HR).below ((Below.refl _ _).alloc (Nat.le_refl _) _))).mono ?_; rintro e w1 ⟨rfl, rfl⟩))
  go_ret
  exact ⟨rfl, (((Below.refl _ _).alloc (Nat.le_refl _) _).alloc (by simp) _)⟩
set_option maxRecDepth 100000 in
set_option maxHeartbeats 4000000 in
theorem do_rem_name (S : Nat → Prop) (p : Nat) (R : List RN) (last : Int) (v : Value) (kd id pa bf ky : Int) (tg nm tx : ByteArray) (w : World) (h : RefAt S w p R last v) (hk1 : (kd == 1) = false) (k : Nat) (hk : k < R.length) (ha : atP R id = (k : Int)) (hky : (ky != 0) = false) (htg : tg.toList.isEmpty = true) (hpa : (pa != 0) = false) (hbf : (bf != 0) = false) (hkd : kd = 3) (hnm : nm.toList.isEmpty = false) :
    Calls Tryz.prog 37 #[.pointer (some ⟨p, 0, none⟩), .agg #[.int .i64 kd, .int .i64 id, .int .i64 pa, .int .i64 bf, .int .i64 ky, .string tg, .string nm, .string tx]] w fun e w' => e = .returned (.bool false) ∧ Below w.heap.size w w' := by
  subst hkd
  have hfew := h.few
  have hp := h.lt
  have c0 := h.c0
  have c1 := h.c1
  have HR := hide h
  obtain ⟨g, cap, rfl, hcc, hg, hSg, hgp, hcell⟩ := h.at (by omega)
  have n0 : w.cell? ⟨g, k * 6, none⟩ = some (.int .i64 R[k].id) := hcell k 0 hk (by omega)
  have n1 : w.cell? ⟨g, k * 6 + 1, none⟩ = some (.int .i64 R[k].par) := hcell k 1 hk (by omega)
  have n2 : w.cell? ⟨g, k * 6 + 2, none⟩ = some (.string R[k].tag) := hcell k 2 hk (by omega)
  have n3 : w.cell? ⟨g, k * 6 + 3, none⟩ = some (.int .i64 R[k].key) := hcell k 3 hk (by omega)
  have n4 : w.cell? ⟨g, k * 6 + 4, none⟩ = some (.slice R[k].ao R[k].an R[k].ac) := hcell k 4 hk (by omega)
  have n5 : w.cell? ⟨g, k * 6 + 5, none⟩ = some (.string R[k].text) := hcell k 5 hk (by omega)
  have hA : ∀ w', RefAt S w' p R last (.slice (some ⟨g, 0, none⟩) R.length cap) → Calls Tryz.prog 49 #[.pointer (some ⟨p, 0, none⟩), .int .i64 id] w' fun e w'' => e = .returned (.int .i64 k) ∧ w'' = w' := by
    intro w' hw
    rw [← ha]
    exact at_any S p R last _ id w' hw
  have HA := hide hA
  clear hA ha
  clear h hcell
  generalize R[k] = nd at *
  go_enter Tryz.func37, Tryz.ntmps37
  go_wp2_with (first | (go_at_call_of 49 (Value.int IntKind.i64 id); refine (unhide HA _ ((unhide HR).below ((Below.refl _ _).alloc (Nat.le_refl _) _))).mono ?_; rintro e w1 ⟨rfl, rfl⟩))
  go_big_quiet (fail)
  go_wp2_with fail
  go_ret
  exact ⟨rfl, drewN_of (((Below.refl _ _).alloc (Nat.le_refl _) _).alloc (by simp) _) _⟩
set_option maxRecDepth 100000 in
set_option maxHeartbeats 4000000 in
theorem do_rem_text (S : Nat → Prop) (p : Nat) (R : List RN) (last : Int) (v : Value) (kd id pa bf ky : Int) (tg nm tx : ByteArray) (w : World) (h : RefAt S w p R last v) (hk1 : (kd == 1) = false) (k : Nat) (hk : k < R.length) (ha : atP R id = (k : Int)) (hky : (ky != 0) = false) (htg : tg.toList.isEmpty = true) (hpa : (pa != 0) = false) (hbf : (bf != 0) = false) (hkd : kd = 3) (hnm : nm.toList.isEmpty = true) (htx : tx.toList.isEmpty = false) :
    Calls Tryz.prog 37 #[.pointer (some ⟨p, 0, none⟩), .agg #[.int .i64 kd, .int .i64 id, .int .i64 pa, .int .i64 bf, .int .i64 ky, .string tg, .string nm, .string tx]] w fun e w' => e = .returned (.bool false) ∧ Below w.heap.size w w' := by
  subst hkd
  have hfew := h.few
  have hp := h.lt
  have c0 := h.c0
  have c1 := h.c1
  have HR := hide h
  obtain ⟨g, cap, rfl, hcc, hg, hSg, hgp, hcell⟩ := h.at (by omega)
  have n0 : w.cell? ⟨g, k * 6, none⟩ = some (.int .i64 R[k].id) := hcell k 0 hk (by omega)
  have n1 : w.cell? ⟨g, k * 6 + 1, none⟩ = some (.int .i64 R[k].par) := hcell k 1 hk (by omega)
  have n2 : w.cell? ⟨g, k * 6 + 2, none⟩ = some (.string R[k].tag) := hcell k 2 hk (by omega)
  have n3 : w.cell? ⟨g, k * 6 + 3, none⟩ = some (.int .i64 R[k].key) := hcell k 3 hk (by omega)
  have n4 : w.cell? ⟨g, k * 6 + 4, none⟩ = some (.slice R[k].ao R[k].an R[k].ac) := hcell k 4 hk (by omega)
  have n5 : w.cell? ⟨g, k * 6 + 5, none⟩ = some (.string R[k].text) := hcell k 5 hk (by omega)
  have hA : ∀ w', RefAt S w' p R last (.slice (some ⟨g, 0, none⟩) R.length cap) → Calls Tryz.prog 49 #[.pointer (some ⟨p, 0, none⟩), .int .i64 id] w' fun e w'' => e = .returned (.int .i64 k) ∧ w'' = w' := by
    intro w' hw
    rw [← ha]
    exact at_any S p R last _ id w' hw
  have HA := hide hA
  clear hA ha
  clear h hcell
  generalize R[k] = nd at *
  go_enter Tryz.func37, Tryz.ntmps37
  go_wp2_with (first | (go_at_call_of 49 (Value.int IntKind.i64 id); refine (unhide HA _ ((unhide HR).below ((Below.refl _ _).alloc (Nat.le_refl _) _))).mono ?_; rintro e w1 ⟨rfl, rfl⟩))
  go_big_quiet (fail)
  go_wp2_with fail
  go_ret
  exact ⟨rfl, drewN_of (((Below.refl _ _).alloc (Nat.le_refl _) _).alloc (by simp) _) _⟩
set_option maxRecDepth 100000 in
set_option maxHeartbeats 4000000 in
theorem do_rem_root (S : Nat → Prop) (p : Nat) (R : List RN) (last : Int) (v : Value) (kd id pa bf ky : Int) (tg nm tx : ByteArray) (w : World) (h : RefAt S w p R last v) (hk1 : (kd == 1) = false) (k : Nat) (hk : k < R.length) (ha : atP R id = (k : Int)) (hky : (ky != 0) = false) (htg : tg.toList.isEmpty = true) (hpa : (pa != 0) = false) (hbf : (bf != 0) = false) (hkd : kd = 3) (hnm : nm.toList.isEmpty = true) (htx : tx.toList.isEmpty = true) (hid : (id == 1) = true) :
    Calls Tryz.prog 37 #[.pointer (some ⟨p, 0, none⟩), .agg #[.int .i64 kd, .int .i64 id, .int .i64 pa, .int .i64 bf, .int .i64 ky, .string tg, .string nm, .string tx]] w fun e w' => e = .returned (.bool false) ∧ Below w.heap.size w w' := by
  subst hkd
  have hfew := h.few
  have hp := h.lt
  have c0 := h.c0
  have c1 := h.c1
  have HR := hide h
  obtain ⟨g, cap, rfl, hcc, hg, hSg, hgp, hcell⟩ := h.at (by omega)
  have n0 : w.cell? ⟨g, k * 6, none⟩ = some (.int .i64 R[k].id) := hcell k 0 hk (by omega)
  have n1 : w.cell? ⟨g, k * 6 + 1, none⟩ = some (.int .i64 R[k].par) := hcell k 1 hk (by omega)
  have n2 : w.cell? ⟨g, k * 6 + 2, none⟩ = some (.string R[k].tag) := hcell k 2 hk (by omega)
  have n3 : w.cell? ⟨g, k * 6 + 3, none⟩ = some (.int .i64 R[k].key) := hcell k 3 hk (by omega)
  have n4 : w.cell? ⟨g, k * 6 + 4, none⟩ = some (.slice R[k].ao R[k].an R[k].ac) := hcell k 4 hk (by omega)
  have n5 : w.cell? ⟨g, k * 6 + 5, none⟩ = some (.string R[k].text) := hcell k 5 hk (by omega)
  have hA : ∀ w', RefAt S w' p R last (.slice (some ⟨g, 0, none⟩) R.length cap) → Calls Tryz.prog 49 #[.pointer (some ⟨p, 0, none⟩), .int .i64 id] w' fun e w'' => e = .returned (.int .i64 k) ∧ w'' = w' := by
    intro w' hw
    rw [← ha]
    exact at_any S p R last _ id w' hw
  have HA := hide hA
  clear hA ha
  clear h hcell
  generalize R[k] = nd at *
  go_enter Tryz.func37, Tryz.ntmps37
  go_wp2_with (first | (go_at_call_of 49 (Value.int IntKind.i64 id); refine (unhide HA _ ((unhide HR).below ((Below.refl _ _).alloc (Nat.le_refl _) _))).mono ?_; rintro e w1 ⟨rfl, rfl⟩))
  go_big_quiet (fail)
  go_wp2_with fail
  go_ret
  exact ⟨rfl, drewN_of (((Below.refl _ _).alloc (Nat.le_refl _) _).alloc (by simp) _) _⟩
set_option maxRecDepth 100000 in
set_option maxHeartbeats 4000000 in
theorem do_wri_name (S : Nat → Prop) (p : Nat) (R : List RN) (last : Int) (v : Value) (kd id pa bf ky : Int) (tg nm tx : ByteArray) (w : World) (h : RefAt S w p R last v) (hk1 : (kd == 1) = false) (k : Nat) (hk : k < R.length) (ha : atP R id = (k : Int)) (hky : (ky != 0) = false) (htg : tg.toList.isEmpty = true) (hpa : (pa != 0) = false) (hbf : (bf != 0) = false) (hkd : kd = 6) (hnm : nm.toList.isEmpty = false) :
    Calls Tryz.prog 37 #[.pointer (some ⟨p, 0, none⟩), .agg #[.int .i64 kd, .int .i64 id, .int .i64 pa, .int .i64 bf, .int .i64 ky, .string tg, .string nm, .string tx]] w fun e w' => e = .returned (.bool false) ∧ Below w.heap.size w w' := by
  subst hkd
  have hfew := h.few
  have hp := h.lt
  have c0 := h.c0
  have c1 := h.c1
  have HR := hide h
  obtain ⟨g, cap, rfl, hcc, hg, hSg, hgp, hcell⟩ := h.at (by omega)
  have n0 : w.cell? ⟨g, k * 6, none⟩ = some (.int .i64 R[k].id) := hcell k 0 hk (by omega)
  have n1 : w.cell? ⟨g, k * 6 + 1, none⟩ = some (.int .i64 R[k].par) := hcell k 1 hk (by omega)
  have n2 : w.cell? ⟨g, k * 6 + 2, none⟩ = some (.string R[k].tag) := hcell k 2 hk (by omega)
  have n3 : w.cell? ⟨g, k * 6 + 3, none⟩ = some (.int .i64 R[k].key) := hcell k 3 hk (by omega)
  have n4 : w.cell? ⟨g, k * 6 + 4, none⟩ = some (.slice R[k].ao R[k].an R[k].ac) := hcell k 4 hk (by omega)
  have n5 : w.cell? ⟨g, k * 6 + 5, none⟩ = some (.string R[k].text) := hcell k 5 hk (by omega)
  have hA : ∀ w', RefAt S w' p R last (.slice (some ⟨g, 0, none⟩) R.length cap) → Calls Tryz.prog 49 #[.pointer (some ⟨p, 0, none⟩), .int .i64 id] w' fun e w'' => e = .returned (.int .i64 k) ∧ w'' = w' := by
    intro w' hw
    rw [← ha]
    exact at_any S p R last _ id w' hw
  have HA := hide hA
  clear hA ha
  clear h hcell
  generalize R[k] = nd at *
  go_enter Tryz.func37, Tryz.ntmps37
  go_wp2_with (first | (go_at_call_of 49 (Value.int IntKind.i64 id); refine (unhide HA _ ((unhide HR).below ((Below.refl _ _).alloc (Nat.le_refl _) _))).mono ?_; rintro e w1 ⟨rfl, rfl⟩))
  go_ret
  exact ⟨rfl, (((Below.refl _ _).alloc (Nat.le_refl _) _).alloc (by simp) _)⟩
set_option maxRecDepth 100000 in
set_option maxHeartbeats 4000000 in
theorem do_wri_text (S : Nat → Prop) (p : Nat) (R : List RN) (last : Int) (v : Value) (kd id pa bf ky : Int) (tg nm tx : ByteArray) (w : World) (h : RefAt S w p R last v) (hk1 : (kd == 1) = false) (k : Nat) (hk : k < R.length) (ha : atP R id = (k : Int)) (hky : (ky != 0) = false) (htg : tg.toList.isEmpty = true) (hpa : (pa != 0) = false) (hbf : (bf != 0) = false) (hkd : kd = 6) (hnm : nm.toList.isEmpty = true) (htx : (20 : Int) < (tx.size : Int)) :
    Calls Tryz.prog 37 #[.pointer (some ⟨p, 0, none⟩), .agg #[.int .i64 kd, .int .i64 id, .int .i64 pa, .int .i64 bf, .int .i64 ky, .string tg, .string nm, .string tx]] w fun e w' => e = .returned (.bool false) ∧ Below w.heap.size w w' := by
  subst hkd
  have hfew := h.few
  have hp := h.lt
  have c0 := h.c0
  have c1 := h.c1
  have HR := hide h
  obtain ⟨g, cap, rfl, hcc, hg, hSg, hgp, hcell⟩ := h.at (by omega)
  have n0 : w.cell? ⟨g, k * 6, none⟩ = some (.int .i64 R[k].id) := hcell k 0 hk (by omega)
  have n1 : w.cell? ⟨g, k * 6 + 1, none⟩ = some (.int .i64 R[k].par) := hcell k 1 hk (by omega)
  have n2 : w.cell? ⟨g, k * 6 + 2, none⟩ = some (.string R[k].tag) := hcell k 2 hk (by omega)
  have n3 : w.cell? ⟨g, k * 6 + 3, none⟩ = some (.int .i64 R[k].key) := hcell k 3 hk (by omega)
  have n4 : w.cell? ⟨g, k * 6 + 4, none⟩ = some (.slice R[k].ao R[k].an R[k].ac) := hcell k 4 hk (by omega)
  have n5 : w.cell? ⟨g, k * 6 + 5, none⟩ = some (.string R[k].text) := hcell k 5 hk (by omega)
  have hA : ∀ w', RefAt S w' p R last (.slice (some ⟨g, 0, none⟩) R.length cap) → Calls Tryz.prog 49 #[.pointer (some ⟨p, 0, none⟩), .int .i64 id] w' fun e w'' => e = .returned (.int .i64 k) ∧ w'' = w' := by
    intro w' hw
    rw [← ha]
    exact at_any S p R last _ id w' hw
  have HA := hide hA
  clear hA ha
  clear h hcell
  generalize R[k] = nd at *
  go_enter Tryz.func37, Tryz.ntmps37
  go_wp2_with (first | (go_at_call_of 49 (Value.int IntKind.i64 id); refine (unhide HA _ ((unhide HR).below ((Below.refl _ _).alloc (Nat.le_refl _) _))).mono ?_; rintro e w1 ⟨rfl, rfl⟩))
  go_ret
  exact ⟨rfl, (((Below.refl _ _).alloc (Nat.le_refl _) _).alloc (by simp) _)⟩
set_option maxRecDepth 100000 in
set_option maxHeartbeats 4000000 in
theorem do_wri_elem (S : Nat → Prop) (p : Nat) (R : List RN) (last : Int) (v : Value) (kd id pa bf ky : Int) (tg nm tx : ByteArray) (w : World) (h : RefAt S w p R last v) (hk1 : (kd == 1) = false) (k : Nat) (hk : k < R.length) (ha : atP R id = (k : Int)) (hky : (ky != 0) = false) (htg : tg.toList.isEmpty = true) (hpa : (pa != 0) = false) (hbf : (bf != 0) = false) (hkd : kd = 6) (hnm : nm.toList.isEmpty = true) (htx : (tx.size : Int) ≤ 20) (htag : R[k].tag.toList.isEmpty = false) :
    Calls Tryz.prog 37 #[.pointer (some ⟨p, 0, none⟩), .agg #[.int .i64 kd, .int .i64 id, .int .i64 pa, .int .i64 bf, .int .i64 ky, .string tg, .string nm, .string tx]] w fun e w' => e = .returned (.bool false) ∧ Below w.heap.size w w' := by
  subst hkd
  have hfew := h.few
  have hp := h.lt
  have c0 := h.c0
  have c1 := h.c1
  have HR := hide h
  obtain ⟨g, cap, rfl, hcc, hg, hSg, hgp, hcell⟩ := h.at (by omega)
  have n0 : w.cell? ⟨g, k * 6, none⟩ = some (.int .i64 R[k].id) := hcell k 0 hk (by omega)
  have n1 : w.cell? ⟨g, k * 6 + 1, none⟩ = some (.int .i64 R[k].par) := hcell k 1 hk (by omega)
  have n2 : w.cell? ⟨g, k * 6 + 2, none⟩ = some (.string R[k].tag) := hcell k 2 hk (by omega)
  have n3 : w.cell? ⟨g, k * 6 + 3, none⟩ = some (.int .i64 R[k].key) := hcell k 3 hk (by omega)
  have n4 : w.cell? ⟨g, k * 6 + 4, none⟩ = some (.slice R[k].ao R[k].an R[k].ac) := hcell k 4 hk (by omega)
  have n5 : w.cell? ⟨g, k * 6 + 5, none⟩ = some (.string R[k].text) := hcell k 5 hk (by omega)
  have hA : ∀ w', RefAt S w' p R last (.slice (some ⟨g, 0, none⟩) R.length cap) → Calls Tryz.prog 49 #[.pointer (some ⟨p, 0, none⟩), .int .i64 id] w' fun e w'' => e = .returned (.int .i64 k) ∧ w'' = w' := by
    intro w' hw
    rw [← ha]
    exact at_any S p R last _ id w' hw
  have HA := hide hA
  clear hA ha
  clear h hcell
  generalize R[k] = nd at *
  go_enter Tryz.func37, Tryz.ntmps37
  go_wp2_with (first | (go_at_call_of 49 (Value.int IntKind.i64 id); refine (unhide HA _ ((unhide HR).below ((Below.refl _ _).alloc (Nat.le_refl _) _))).mono ?_; rintro e w1 ⟨rfl, rfl⟩))
  go_ret
  exact ⟨rfl, (((Below.refl _ _).alloc (Nat.le_refl _) _).alloc (by simp) _)⟩
end Go.Proofs.YtobgcaemnpkbmaaGreat
