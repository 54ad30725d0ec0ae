/- DoI -/
import Derived.Test.YtobgcaemnpkbmaaGreatD21
namespace Go.Proofs.YtobgcaemnpkbmaaGreat
open Go.RowKit
attribute [local go_sem ↓] Go.wp_at_zero Go.wp_at_succ
set_option maxRecDepth 100000 in
set_option maxHeartbeats 4000000 in
theorem do_ins_name (S : Nat → Prop) (p : Nat) (R : List RN) (last : Int) (v : Value) (kd id pa bf ky : Int) (tg nm tx : ByteArray) (w : World) (h : RefAt S w p R last v) (hk1 : (kd == 1) = false) (k : Nat) (hk : k < R.length) (ha : atP R id = (k : Int)) (hky : (ky != 0) = false) (htg : tg.toList.isEmpty = true) (hkd : kd = 2) (hnm : nm.toList.isEmpty = false) (tpl bpl : Int) (hat : atP R pa = tpl) (hab : atP R bf = bpl) :
    Calls Tryz.prog 37 #[.pointer (some ⟨p, 0, none⟩), .agg #[.int .i64 kd, .int .i64 id, .int .i64 pa, .int .i64 bf, .int .i64 ky, .string tg, .string nm, .string tx]] w fun e w' => e = .returned (.bool false) ∧ Below w.heap.size w w' := by
  subst hkd
  have hfew := h.few
  have hp := h.lt
  have c0 := h.c0
  have c1 := h.c1
  have HR := hide h
  obtain ⟨g, cap, rfl, hcc, hg, hSg, hgp, hcell⟩ := h.at (by omega)
  have n0 : w.cell? ⟨g, k * 6, none⟩ = some (.int .i64 R[k].id) := hcell k 0 hk (by omega)
  have n1 : w.cell? ⟨g, k * 6 + 1, none⟩ = some (.int .i64 R[k].par) := hcell k 1 hk (by omega)
  have n2 : w.cell? ⟨g, k * 6 + 2, none⟩ = some (.string R[k].tag) := hcell k 2 hk (by omega)
  have n3 : w.cell? ⟨g, k * 6 + 3, none⟩ = some (.int .i64 R[k].key) := hcell k 3 hk (by omega)
  have n4 : w.cell? ⟨g, k * 6 + 4, none⟩ = some (.slice R[k].ao R[k].an R[k].ac) := hcell k 4 hk (by omega)
  have n5 : w.cell? ⟨g, k * 6 + 5, none⟩ = some (.string R[k].text) := hcell k 5 hk (by omega)
  have hA : ∀ w', RefAt S w' p R last (.slice (some ⟨g, 0, none⟩) R.length cap) → Calls Tryz.prog 49 #[.pointer (some ⟨p, 0, none⟩), .int .i64 id] w' fun e w'' => e = .returned (.int .i64 k) ∧ w'' = w' := by
    intro w' hw
    rw [← ha]
    exact at_any S p R last _ id w' hw
  have HA := hide hA
  clear hA ha
  have hAp : ∀ w', RefAt S w' p R last (.slice (some ⟨g, 0, none⟩) R.length cap) → Calls Tryz.prog 49 #[.pointer (some ⟨p, 0, none⟩), .int .i64 pa] w' fun e w'' => e = .returned (.int .i64 tpl) ∧ w'' = w' := by
    intro w' hw
    rw [← hat]
    exact at_any S p R last _ pa w' hw
  have HAp := hide hAp
  clear hAp hat
  have hAb : ∀ w', RefAt S w' p R last (.slice (some ⟨g, 0, none⟩) R.length cap) → Calls Tryz.prog 49 #[.pointer (some ⟨p, 0, none⟩), .int .i64 bf] w' fun e w'' => e = .returned (.int .i64 bpl) ∧ w'' = w' := by
    intro w' hw
    rw [← hab]
    exact at_any S p R last _ bf w' hw
  have HAb := hide hAb
  clear hAb hab
  clear h hcell
  generalize R[k] = nd at *
  go_enter Tryz.func37, Tryz.ntmps37
  go_wp2_with (first | (go_at_call_of 49 (Value.int IntKind.i64 id); refine (unhide HA _ ((unhide HR).below ((Below.refl _ _).alloc (Nat.le_refl _) _))).mono ?_; rintro e w1 ⟨rfl, rfl⟩) | (go_at_call_of 49 (Value.int IntKind.i64 pa); refine (unhide HAp _ ((unhide HR).below (((Below.refl _ _).alloc (Nat.le_refl _) _).alloc (by simp) _))).mono ?_; rintro e w1 ⟨rfl, rfl⟩) | (go_at_call_of 49 (Value.int IntKind.i64 bf); refine (unhide HAb _ ((unhide HR).below (((Below.refl _ _).alloc (Nat.le_refl _) _).alloc (by simp) _))).mono ?_; rintro e w1 ⟨rfl, rfl⟩))
  go_big_quiet (fail)
  go_wp2_with fail
  go_ret
  exact ⟨rfl, drewN_of (((Below.refl _ _).alloc (Nat.le_refl _) _).alloc (by simp) _) _⟩
set_option maxRecDepth 100000 in
set_option maxHeartbeats 4000000 in
theorem do_ins_text (S : Nat → Prop) (p : Nat) (R : List RN) (last : Int) (v : Value) (kd id pa bf ky : Int) (tg nm tx : ByteArray) (w : World) (h : RefAt S w p R last v) (hk1 : (kd == 1) = false) (k : Nat) (hk : k < R.length) (ha : atP R id = (k : Int)) (hky : (ky != 0) = false) (htg : tg.toList.isEmpty = true) (hkd : kd = 2) (hnm : nm.toList.isEmpty = true) (htx : tx.toList.isEmpty = false) (tpl bpl : Int) (hat : atP R pa = tpl) (hab : atP R bf = bpl) :
    Calls Tryz.prog 37 #[.pointer (some ⟨p, 0, none⟩), .agg #[.int .i64 kd, .int .i64 id, .int .i64 pa, .int .i64 bf, .int .i64 ky, .string tg, .string nm, .string tx]] w fun e w' => e = .returned (.bool false) ∧ Below w.heap.size w w' := by
  subst hkd
  have hfew := h.few
  have hp := h.lt
  have c0 := h.c0
  have c1 := h.c1
  have HR := hide h
  obtain ⟨g, cap, rfl, hcc, hg, hSg, hgp, hcell⟩ := h.at (by omega)
  have n0 : w.cell? ⟨g, k * 6, none⟩ = some (.int .i64 R[k].id) := hcell k 0 hk (by omega)
  have n1 : w.cell? ⟨g, k * 6 + 1, none⟩ = some (.int .i64 R[k].par) := hcell k 1 hk (by omega)
  have n2 : w.cell? ⟨g, k * 6 + 2, none⟩ = some (.string R[k].tag) := hcell k 2 hk (by omega)
  have n3 : w.cell? ⟨g, k * 6 + 3, none⟩ = some (.int .i64 R[k].key) := hcell k 3 hk (by omega)
  have n4 : w.cell? ⟨g, k * 6 + 4, none⟩ = some (.slice R[k].ao R[k].an R[k].ac) := hcell k 4 hk (by omega)
  have n5 : w.cell? ⟨g, k * 6 + 5, none⟩ = some (.string R[k].text) := hcell k 5 hk (by omega)
  have hA : ∀ w', RefAt S w' p R last (.slice (some ⟨g, 0, none⟩) R.length cap) → Calls Tryz.prog 49 #[.pointer (some ⟨p, 0, none⟩), .int .i64 id] w' fun e w'' => e = .returned (.int .i64 k) ∧ w'' = w' := by
    intro w' hw
    rw [← ha]
    exact at_any S p R last _ id w' hw
  have HA := hide hA
  clear hA ha
  have hAp : ∀ w', RefAt S w' p R last (.slice (some ⟨g, 0, none⟩) R.length cap) → Calls Tryz.prog 49 #[.pointer (some ⟨p, 0, none⟩), .int .i64 pa] w' fun e w'' => e = .returned (.int .i64 tpl) ∧ w'' = w' := by
    intro w' hw
    rw [← hat]
    exact at_any S p R last _ pa w' hw
  have HAp := hide hAp
  clear hAp hat
  have hAb : ∀ w', RefAt S w' p R last (.slice (some ⟨g, 0, none⟩) R.length cap) → Calls Tryz.prog 49 #[.pointer (some ⟨p, 0, none⟩), .int .i64 bf] w' fun e w'' => e = .returned (.int .i64 bpl) ∧ w'' = w' := by
    intro w' hw
    rw [← hab]
    exact at_any S p R last _ bf w' hw
  have HAb := hide hAb
  clear hAb hab
  clear h hcell
  generalize R[k] = nd at *
  go_enter Tryz.func37, Tryz.ntmps37
  go_wp2_with (first | (go_at_call_of 49 (Value.int IntKind.i64 id); refine (unhide HA _ ((unhide HR).below ((Below.refl _ _).alloc (Nat.le_refl _) _))).mono ?_; rintro e w1 ⟨rfl, rfl⟩) | (go_at_call_of 49 (Value.int IntKind.i64 pa); refine (unhide HAp _ ((unhide HR).below (((Below.refl _ _).alloc (Nat.le_refl _) _).alloc (by simp) _))).mono ?_; rintro e w1 ⟨rfl, rfl⟩) | (go_at_call_of 49 (Value.int IntKind.i64 bf); refine (unhide HAb _ ((unhide HR).below (((Below.refl _ _).alloc (Nat.le_refl _) _).alloc (by simp) _))).mono ?_; rintro e w1 ⟨rfl, rfl⟩))
  go_big_quiet (fail)
  go_wp2_with fail
  go_ret
  exact ⟨rfl, drewN_of (((Below.refl _ _).alloc (Nat.le_refl _) _).alloc (by simp) _) _⟩
set_option maxRecDepth 100000 in
set_option maxHeartbeats 4000000 in
theorem do_ins_root (S : Nat → Prop) (p : Nat) (R : List RN) (last : Int) (v : Value) (kd id pa bf ky : Int) (tg nm tx : ByteArray) (w : World) (h : RefAt S w p R last v) (hk1 : (kd == 1) = false) (k : Nat) (hk : k < R.length) (ha : atP R id = (k : Int)) (hky : (ky != 0) = false) (htg : tg.toList.isEmpty = true) (hkd : kd = 2) (hnm : nm.toList.isEmpty = true) (htx : tx.toList.isEmpty = true) (hid : (id == 1) = true) (tpl bpl : Int) (hat : atP R pa = tpl) (hab : atP R bf = bpl) :
    Calls Tryz.prog 37 #[.pointer (some ⟨p, 0, none⟩), .agg #[.int .i64 kd, .int .i64 id, .int .i64 pa, .int .i64 bf, .int .i64 ky, .string tg, .string nm, .string tx]] w fun e w' => e = .returned (.bool false) ∧ Below w.heap.size w w' := by
  subst hkd
  have hfew := h.few
  have hp := h.lt
  have c0 := h.c0
  have c1 := h.c1
  have HR := hide h
  obtain ⟨g, cap, rfl, hcc, hg, hSg, hgp, hcell⟩ := h.at (by omega)
  have n0 : w.cell? ⟨g, k * 6, none⟩ = some (.int .i64 R[k].id) := hcell k 0 hk (by omega)
  have n1 : w.cell? ⟨g, k * 6 + 1, none⟩ = some (.int .i64 R[k].par) := hcell k 1 hk (by omega)
  have n2 : w.cell? ⟨g, k * 6 + 2, none⟩ = some (.string R[k].tag) := hcell k 2 hk (by omega)
  have n3 : w.cell? ⟨g, k * 6 + 3, none⟩ = some (.int .i64 R[k].key) := hcell k 3 hk (by omega)
  have n4 : w.cell? ⟨g, k * 6 + 4, none⟩ = some (.slice R[k].ao R[k].an R[k].ac) := hcell k 4 hk (by omega)
  have n5 : w.cell? ⟨g, k * 6 + 5, none⟩ = some (.string R[k].text) := hcell k 5 hk (by omega)
  have hA : ∀ w', RefAt S w' p R last (.slice (some ⟨g, 0, none⟩) R.length cap) → Calls Tryz.prog 49 #[.pointer (some ⟨p, 0, none⟩), .int .i64 id] w' fun e w'' => e = .returned (.int .i64 k) ∧ w'' = w' := by
    intro w' hw
    rw [← ha]
    exact at_any S p R last _ id w' hw
  have HA := hide hA
  clear hA ha
  have hAp : ∀ w', RefAt S w' p R last (.slice (some ⟨g, 0, none⟩) R.length cap) → Calls Tryz.prog 49 #[.pointer (some ⟨p, 0, none⟩), .int .i64 pa] w' fun e w'' => e = .returned (.int .i64 tpl) ∧ w'' = w' := by
    intro w' hw
    rw [← hat]
    exact at_any S p R last _ pa w' hw
  have HAp := hide hAp
  clear hAp hat
  have hAb : ∀ w', RefAt S w' p R last (.slice (some ⟨g, 0, none⟩) R.length cap) → Calls Tryz.prog 49 #[.pointer (some ⟨p, 0, none⟩), .int .i64 bf] w' fun e w'' => e = .returned (.int .i64 bpl) ∧ w'' = w' := by
    intro w' hw
    rw [← hab]
    exact at_any S p R last _ bf w' hw
  have HAb := hide hAb
  clear hAb hab
  clear h hcell
  generalize R[k] = nd at *
  go_enter Tryz.func37, Tryz.ntmps37
  go_wp2_with (first | (go_at_call_of 49 (Value.int IntKind.i64 id); refine (unhide HA _ ((unhide HR).below ((Below.refl _ _).alloc (Nat.le_refl _) _))).mono ?_; rintro e w1 ⟨rfl, rfl⟩) | (go_at_call_of 49 (Value.int IntKind.i64 pa); refine (unhide HAp _ ((unhide HR).below (((Below.refl _ _).alloc (Nat.le_refl _) _).alloc (by simp) _))).mono ?_; rintro e w1 ⟨rfl, rfl⟩) | (go_at_call_of 49 (Value.int IntKind.i64 bf); refine (unhide HAb _ ((unhide HR).below (((Below.refl _ _).alloc (Nat.le_refl _) _).alloc (by simp) _))).mono ?_; rintro e w1 ⟨rfl, rfl⟩))
  go_big_quiet (fail)
  go_wp2_with fail
  go_ret
  exact ⟨rfl, drewN_of (((Below.refl _ _).alloc (Nat.le_refl _) _).alloc (by simp) _) _⟩
set_option maxRecDepth 100000 in
set_option maxHeartbeats 4000000 in
theorem do_ins_nopar (S : Nat → Prop) (p : Nat) (R : List RN) (last : Int) (v : Value) (kd id pa bf ky : Int) (tg nm tx : ByteArray) (w : World) (h : RefAt S w p R last v) (hk1 : (kd == 1) = false) (k : Nat) (hk : k < R.length) (ha : atP R id = (k : Int)) (hky : (ky != 0) = false) (htg : tg.toList.isEmpty = true) (hkd : kd = 2) (hnm : nm.toList.isEmpty = true) (htx : tx.toList.isEmpty = true) (hid : (id == 1) = false) (bpl : Int) (hat : atP R pa = -1) (hab : atP R bf = bpl) :
    Calls Tryz.prog 37 #[.pointer (some ⟨p, 0, none⟩), .agg #[.int .i64 kd, .int .i64 id, .int .i64 pa, .int .i64 bf, .int .i64 ky, .string tg, .string nm, .string tx]] w fun e w' => e = .returned (.bool false) ∧ Below w.heap.size w w' := by
  subst hkd
  have hfew := h.few
  have hp := h.lt
  have c0 := h.c0
  have c1 := h.c1
  have HR := hide h
  obtain ⟨g, cap, rfl, hcc, hg, hSg, hgp, hcell⟩ := h.at (by omega)
  have n0 : w.cell? ⟨g, k * 6, none⟩ = some (.int .i64 R[k].id) := hcell k 0 hk (by omega)
  have n1 : w.cell? ⟨g, k * 6 + 1, none⟩ = some (.int .i64 R[k].par) := hcell k 1 hk (by omega)
  have n2 : w.cell? ⟨g, k * 6 + 2, none⟩ = some (.string R[k].tag) := hcell k 2 hk (by omega)
  have n3 : w.cell? ⟨g, k * 6 + 3, none⟩ = some (.int .i64 R[k].key) := hcell k 3 hk (by omega)
  have n4 : w.cell? ⟨g, k * 6 + 4, none⟩ = some (.slice R[k].ao R[k].an R[k].ac) := hcell k 4 hk (by omega)
  have n5 : w.cell? ⟨g, k * 6 + 5, none⟩ = some (.string R[k].text) := hcell k 5 hk (by omega)
  have hA : ∀ w', RefAt S w' p R last (.slice (some ⟨g, 0, none⟩) R.length cap) → Calls Tryz.prog 49 #[.pointer (some ⟨p, 0, none⟩), .int .i64 id] w' fun e w'' => e = .returned (.int .i64 k) ∧ w'' = w' := by
    intro w' hw
    rw [← ha]
    exact at_any S p R last _ id w' hw
  have HA := hide hA
  clear hA ha
  have hAp : ∀ w', RefAt S w' p R last (.slice (some ⟨g, 0, none⟩) R.length cap) → Calls Tryz.prog 49 #[.pointer (some ⟨p, 0, none⟩), .int .i64 pa] w' fun e w'' => e = .returned (.int .i64 (-1)) ∧ w'' = w' := by
    intro w' hw
    rw [← hat]
    exact at_any S p R last _ pa w' hw
  have HAp := hide hAp
  clear hAp hat
  have hAb : ∀ w', RefAt S w' p R last (.slice (some ⟨g, 0, none⟩) R.length cap) → Calls Tryz.prog 49 #[.pointer (some ⟨p, 0, none⟩), .int .i64 bf] w' fun e w'' => e = .returned (.int .i64 bpl) ∧ w'' = w' := by
    intro w' hw
    rw [← hab]
    exact at_any S p R last _ bf w' hw
  have HAb := hide hAb
  clear hAb hab
  clear h hcell
  generalize R[k] = nd at *
  go_enter Tryz.func37, Tryz.ntmps37
  go_wp2_with (first | (go_at_call_of 49 (Value.int IntKind.i64 id); refine (unhide HA _ ((unhide HR).below ((Below.refl _ _).alloc (Nat.le_refl _) _))).mono ?_; rintro e w1 ⟨rfl, rfl⟩) | (go_at_call_of 49 (Value.int IntKind.i64 pa); refine (unhide HAp _ ((unhide HR).below (((Below.refl _ _).alloc (Nat.le_refl _) _).alloc (by simp) _))).mono ?_; rintro e w1 ⟨rfl, rfl⟩) | (go_at_call_of 49 (Value.int IntKind.i64 bf); refine (unhide HAb _ ((unhide HR).below (((Below.refl _ _).alloc (Nat.le_refl _) _).alloc (by simp) _))).mono ?_; rintro e w1 ⟨rfl, rfl⟩))
  go_big_quiet (fail)
  go_wp2_with fail
  go_ret
  exact ⟨rfl, drewN_of (((Below.refl _ _).alloc (Nat.le_refl _) _).alloc (by simp) _) _⟩
set_option maxRecDepth 100000 in
set_option maxHeartbeats 4000000 in
theorem do_ins_txpar (S : Nat → Prop) (p : Nat) (R : List RN) (last : Int) (v : Value) (kd id pa bf ky : Int) (tg nm tx : ByteArray) (w : World) (h : RefAt S w p R last v) (hk1 : (kd == 1) = false) (k : Nat) (hk : k < R.length) (ha : atP R id = (k : Int)) (hky : (ky != 0) = false) (htg : tg.toList.isEmpty = true) (hkd : kd = 2) (hnm : nm.toList.isEmpty = true) (htx : tx.toList.isEmpty = true) (hid : (id == 1) = false) (t : Nat) (ht : t < R.length) (hat : atP R pa = (t : Int)) (htag : R[t].tag.toList.isEmpty = true) (bpl : Int) (hab : atP R bf = bpl) :
    Calls Tryz.prog 37 #[.pointer (some ⟨p, 0, none⟩), .agg #[.int .i64 kd, .int .i64 id, .int .i64 pa, .int .i64 bf, .int .i64 ky, .string tg, .string nm, .string tx]] w fun e w' => e = .returned (.bool false) ∧ Below w.heap.size w w' := by
  subst hkd
  have hfew := h.few
  have hp := h.lt
  have c0 := h.c0
  have c1 := h.c1
  have HR := hide h
  obtain ⟨g, cap, rfl, hcc, hg, hSg, hgp, hcell⟩ := h.at (by omega)
  have n0 : w.cell? ⟨g, k * 6, none⟩ = some (.int .i64 R[k].id) := hcell k 0 hk (by omega)
  have n1 : w.cell? ⟨g, k * 6 + 1, none⟩ = some (.int .i64 R[k].par) := hcell k 1 hk (by omega)
  have n2 : w.cell? ⟨g, k * 6 + 2, none⟩ = some (.string R[k].tag) := hcell k 2 hk (by omega)
  have n3 : w.cell? ⟨g, k * 6 + 3, none⟩ = some (.int .i64 R[k].key) := hcell k 3 hk (by omega)
  have n4 : w.cell? ⟨g, k * 6 + 4, none⟩ = some (.slice R[k].ao R[k].an R[k].ac) := hcell k 4 hk (by omega)
  have n5 : w.cell? ⟨g, k * 6 + 5, none⟩ = some (.string R[k].text) := hcell k 5 hk (by omega)
  have t2 : w.cell? ⟨g, t * 6 + 2, none⟩ = some (.string R[t].tag) := hcell t 2 ht (by omega)
  have ti1 : (0 : Int) ≤ (t : Int) := by omega
  have ti2 : (t : Int) < (R.length : Int) := by omega
  have tb : decide ((t : Int) < 0) = false := by simp
  have hA : ∀ w', RefAt S w' p R last (.slice (some ⟨g, 0, none⟩) R.length cap) → Calls Tryz.prog 49 #[.pointer (some ⟨p, 0, none⟩), .int .i64 id] w' fun e w'' => e = .returned (.int .i64 k) ∧ w'' = w' := by
    intro w' hw
    rw [← ha]
    exact at_any S p R last _ id w' hw
  have HA := hide hA
  clear hA ha
  have hAp : ∀ w', RefAt S w' p R last (.slice (some ⟨g, 0, none⟩) R.length cap) → Calls Tryz.prog 49 #[.pointer (some ⟨p, 0, none⟩), .int .i64 pa] w' fun e w'' => e = .returned (.int .i64 t) ∧ w'' = w' := by
    intro w' hw
    rw [← hat]
    exact at_any S p R last _ pa w' hw
  have HAp := hide hAp
  clear hAp hat
  have hAb : ∀ w', RefAt S w' p R last (.slice (some ⟨g, 0, none⟩) R.length cap) → Calls Tryz.prog 49 #[.pointer (some ⟨p, 0, none⟩), .int .i64 bf] w' fun e w'' => e = .returned (.int .i64 bpl) ∧ w'' = w' := by
    intro w' hw
    rw [← hab]
    exact at_any S p R last _ bf w' hw
  have HAb := hide hAb
  clear hAb hab
  clear h hcell
  generalize R[k] = nd at *
  generalize R[t].tag = tt at *
  go_enter Tryz.func37, Tryz.ntmps37
  go_wp2_with (first | (go_at_call_of 49 (Value.int IntKind.i64 id); refine (unhide HA _ ((unhide HR).below ((Below.refl _ _).alloc (Nat.le_refl _) _))).mono ?_; rintro e w1 ⟨rfl, rfl⟩) | (go_at_call_of 49 (Value.int IntKind.i64 pa); refine (unhide HAp _ ((unhide HR).below (((Below.refl _ _).alloc (Nat.le_refl _) _).alloc (by simp) _))).mono ?_; rintro e w1 ⟨rfl, rfl⟩) | (go_at_call_of 49 (Value.int IntKind.i64 bf); refine (unhide HAb _ ((unhide HR).below (((Below.refl _ _).alloc (Nat.le_refl _) _).alloc (by simp) _))).mono ?_; rintro e w1 ⟨rfl, rfl⟩))
  go_big_quiet (fail)
  go_wp2_with fail
  go_ret
  exact ⟨rfl, drewN_of (((Below.refl _ _).alloc (Nat.le_refl _) _).alloc (by simp) _) _⟩
set_option maxRecDepth 100000 in
set_option maxHeartbeats 4000000 in
theorem do_ins_nobef (S : Nat → Prop) (p : Nat) (R : List RN) (last : Int) (v : Value) (kd id pa bf ky : Int) (tg nm tx : ByteArray) (w : World) (h : RefAt S w p R last v) (hk1 : (kd == 1) = false) (k : Nat) (hk : k < R.length) (ha : atP R id = (k : Int)) (hky : (ky != 0) = false) (htg : tg.toList.isEmpty = true) (hkd : kd = 2) (hnm : nm.toList.isEmpty = true) (htx : tx.toList.isEmpty = true) (hid : (id == 1) = false) (t : Nat) (ht : t < R.length) (hat : atP R pa = (t : Int)) (htag : R[t].tag.toList.isEmpty = false) (hbf : (bf != 0) = true) (hab : atP R bf = -1) :
    Calls Tryz.prog 37 #[.pointer (some ⟨p, 0, none⟩), .agg #[.int .i64 kd, .int .i64 id, .int .i64 pa, .int .i64 bf, .int .i64 ky, .string tg, .string nm, .string tx]] w fun e w' => e = .returned (.bool false) ∧ Below w.heap.size w w' := by
  subst hkd
  have hfew := h.few
  have hp := h.lt
  have c0 := h.c0
  have c1 := h.c1
  have HR := hide h
  obtain ⟨g, cap, rfl, hcc, hg, hSg, hgp, hcell⟩ := h.at (by omega)
  have n0 : w.cell? ⟨g, k * 6, none⟩ = some (.int .i64 R[k].id) := hcell k 0 hk (by omega)
  have n1 : w.cell? ⟨g, k * 6 + 1, none⟩ = some (.int .i64 R[k].par) := hcell k 1 hk (by omega)
  have n2 : w.cell? ⟨g, k * 6 + 2, none⟩ = some (.string R[k].tag) := hcell k 2 hk (by omega)
  have n3 : w.cell? ⟨g, k * 6 + 3, none⟩ = some (.int .i64 R[k].key) := hcell k 3 hk (by omega)
  have n4 : w.cell? ⟨g, k * 6 + 4, none⟩ = some (.slice R[k].ao R[k].an R[k].ac) := hcell k 4 hk (by omega)
  have n5 : w.cell? ⟨g, k * 6 + 5, none⟩ = some (.string R[k].text) := hcell k 5 hk (by omega)
  have t2 : w.cell? ⟨g, t * 6 + 2, none⟩ = some (.string R[t].tag) := hcell t 2 ht (by omega)
  have ti1 : (0 : Int) ≤ (t : Int) := by omega
  have ti2 : (t : Int) < (R.length : Int) := by omega
  have tb : decide ((t : Int) < 0) = false := by simp
  have hA : ∀ w', RefAt S w' p R last (.slice (some ⟨g, 0, none⟩) R.length cap) → Calls Tryz.prog 49 #[.pointer (some ⟨p, 0, none⟩), .int .i64 id] w' fun e w'' => e = .returned (.int .i64 k) ∧ w'' = w' := by
    intro w' hw
    rw [← ha]
    exact at_any S p R last _ id w' hw
  have HA := hide hA
  clear hA ha
  have hAp : ∀ w', RefAt S w' p R last (.slice (some ⟨g, 0, none⟩) R.length cap) → Calls Tryz.prog 49 #[.pointer (some ⟨p, 0, none⟩), .int .i64 pa] w' fun e w'' => e = .returned (.int .i64 t) ∧ w'' = w' := by
    intro w' hw
    rw [← hat]
    exact at_any S p R last _ pa w' hw
  have HAp := hide hAp
  clear hAp hat
  have hAb : ∀ w', RefAt S w' p R last (.slice (some ⟨g, 0, none⟩) R.length cap) → Calls Tryz.prog 49 #[.pointer (some ⟨p, 0, none⟩), .int .i64 bf] w' fun e w'' => e = .returned (.int .i64 (-1)) ∧ w'' = w' := by
    intro w' hw
    rw [← hab]
    exact at_any S p R last _ bf w' hw
  have HAb := hide hAb
  clear hAb hab
  clear h hcell
  generalize R[k] = nd at *
  generalize R[t].tag = tt at *
  go_enter Tryz.func37, Tryz.ntmps37
  go_wp2_with (first | (go_at_call_of 49 (Value.int IntKind.i64 id); refine (unhide HA _ ((unhide HR).below ((Below.refl _ _).alloc (Nat.le_refl _) _))).mono ?_; rintro e w1 ⟨rfl, rfl⟩) | (go_at_call_of 49 (Value.int IntKind.i64 pa); refine (unhide HAp _ ((unhide HR).below (((Below.refl _ _).alloc (Nat.le_refl _) _).alloc (by simp) _))).mono ?_; rintro e w1 ⟨rfl, rfl⟩) | (go_at_call_of 49 (Value.int IntKind.i64 bf); refine (unhide HAb _ ((unhide HR).below (((Below.refl _ _).alloc (Nat.le_refl _) _).alloc (by simp) _))).mono ?_; rintro e w1 ⟨rfl, rfl⟩))
  go_big_quiet (fail)
  go_wp2_with fail
  go_ret
  exact ⟨rfl, drewN_of (((Below.refl _ _).alloc (Nat.le_refl _) _).alloc (by simp) _) _⟩
set_option maxRecDepth 100000 in
set_option maxHeartbeats 4000000 in
theorem do_ins_nokid (S : Nat → Prop) (p : Nat) (R : List RN) (last : Int) (v : Value) (kd id pa bf ky : Int) (tg nm tx : ByteArray) (w : World) (h : RefAt S w p R last v) (hk1 : (kd == 1) = false) (k : Nat) (hk : k < R.length) (ha : atP R id = (k : Int)) (hky : (ky != 0) = false) (htg : tg.toList.isEmpty = true) (hkd : kd = 2) (hnm : nm.toList.isEmpty = true) (htx : tx.toList.isEmpty = true) (hid : (id == 1) = false) (t : Nat) (ht : t < R.length) (hat : atP R pa = (t : Int)) (htag : R[t].tag.toList.isEmpty = false) (hbf : (bf != 0) = true) (b : Nat) (hb : b < R.length) (hab : atP R bf = (b : Int)) (hbp : (R[b].par != pa) = true) :
    Calls Tryz.prog 37 #[.pointer (some ⟨p, 0, none⟩), .agg #[.int .i64 kd, .int .i64 id, .int .i64 pa, .int .i64 bf, .int .i64 ky, .string tg, .string nm, .string tx]] w fun e w' => e = .returned (.bool false) ∧ Below w.heap.size w w' := by
  subst hkd
  have hfew := h.few
  have hp := h.lt
  have c0 := h.c0
  have c1 := h.c1
  have HR := hide h
  obtain ⟨g, cap, rfl, hcc, hg, hSg, hgp, hcell⟩ := h.at (by omega)
  have n0 : w.cell? ⟨g, k * 6, none⟩ = some (.int .i64 R[k].id) := hcell k 0 hk (by omega)
  have n1 : w.cell? ⟨g, k * 6 + 1, none⟩ = some (.int .i64 R[k].par) := hcell k 1 hk (by omega)
  have n2 : w.cell? ⟨g, k * 6 + 2, none⟩ = some (.string R[k].tag) := hcell k 2 hk (by omega)
  have n3 : w.cell? ⟨g, k * 6 + 3, none⟩ = some (.int .i64 R[k].key) := hcell k 3 hk (by omega)
  have n4 : w.cell? ⟨g, k * 6 + 4, none⟩ = some (.slice R[k].ao R[k].an R[k].ac) := hcell k 4 hk (by omega)
  have n5 : w.cell? ⟨g, k * 6 + 5, none⟩ = some (.string R[k].text) := hcell k 5 hk (by omega)
  have t2 : w.cell? ⟨g, t * 6 + 2, none⟩ = some (.string R[t].tag) := hcell t 2 ht (by omega)
  have ti1 : (0 : Int) ≤ (t : Int) := by omega
  have ti2 : (t : Int) < (R.length : Int) := by omega
  have tb : decide ((t : Int) < 0) = false := by simp
  have b1 : w.cell? ⟨g, b * 6 + 1, none⟩ = some (.int .i64 R[b].par) := hcell b 1 hb (by omega)
  have bi1 : (0 : Int) ≤ (b : Int) := by omega
  have bi2 : (b : Int) < (R.length : Int) := by omega
  have bb : decide ((b : Int) < 0) = false := by simp
  have hA : ∀ w', RefAt S w' p R last (.slice (some ⟨g, 0, none⟩) R.length cap) → Calls Tryz.prog 49 #[.pointer (some ⟨p, 0, none⟩), .int .i64 id] w' fun e w'' => e = .returned (.int .i64 k) ∧ w'' = w' := by
    intro w' hw
    rw [← ha]
    exact at_any S p R last _ id w' hw
  have HA := hide hA
  clear hA ha
  have hAp : ∀ w', RefAt S w' p R last (.slice (some ⟨g, 0, none⟩) R.length cap) → Calls Tryz.prog 49 #[.pointer (some ⟨p, 0, none⟩), .int .i64 pa] w' fun e w'' => e = .returned (.int .i64 t) ∧ w'' = w' := by
    intro w' hw
    rw [← hat]
    exact at_any S p R last _ pa w' hw
  have HAp := hide hAp
  clear hAp hat
  have hAb : ∀ w', RefAt S w' p R last (.slice (some ⟨g, 0, none⟩) R.length cap) → Calls Tryz.prog 49 #[.pointer (some ⟨p, 0, none⟩), .int .i64 bf] w' fun e w'' => e = .returned (.int .i64 b) ∧ w'' = w' := by
    intro w' hw
    rw [← hab]
    exact at_any S p R last _ bf w' hw
  have HAb := hide hAb
  clear hAb hab
  clear h hcell
  generalize R[k] = nd at *
  generalize R[t].tag = tt at *
  generalize R[b].par = bp at *
  go_enter Tryz.func37, Tryz.ntmps37
  go_wp2_with (first | (go_at_call_of 49 (Value.int IntKind.i64 id); refine (unhide HA _ ((unhide HR).below ((Below.refl _ _).alloc (Nat.le_refl _) _))).mono ?_; rintro e w1 ⟨rfl, rfl⟩) | (go_at_call_of 49 (Value.int IntKind.i64 pa); refine (unhide HAp _ ((unhide HR).below (((Below.refl _ _).alloc (Nat.le_refl _) _).alloc (by simp) _))).mono ?_; rintro e w1 ⟨rfl, rfl⟩) | (go_at_call_of 49 (Value.int IntKind.i64 bf); refine (unhide HAb _ ((unhide HR).below (((Below.refl _ _).alloc (Nat.le_refl _) _).alloc (by simp) _))).mono ?_; rintro e w1 ⟨rfl, rfl⟩))
  go_big_quiet (fail)
  go_wp2_with fail
  go_ret
  exact ⟨rfl, drewN_of (((Below.refl _ _).alloc (Nat.le_refl _) _).alloc (by simp) _) _⟩
set_option maxRecDepth 100000 in
set_option maxHeartbeats 4000000 in
theorem do_ins_self (S : Nat → Prop) (p : Nat) (R : List RN) (last : Int) (v : Value) (kd id pa bf ky : Int) (tg nm tx : ByteArray) (w : World) (h : RefAt S w p R last v) (hk1 : (kd == 1) = false) (k : Nat) (hk : k < R.length) (ha : atP R id = (k : Int)) (hky : (ky != 0) = false) (htg : tg.toList.isEmpty = true) (hkd : kd = 2) (hnm : nm.toList.isEmpty = true) (htx : tx.toList.isEmpty = true) (hid : (id == 1) = false) (t : Nat) (ht : t < R.length) (hat : atP R pa = (t : Int)) (htag : R[t].tag.toList.isEmpty = false) (hbf : (bf != 0) = true) (b : Nat) (hb : b < R.length) (hab : atP R bf = (b : Int)) (hbp : (R[b].par != pa) = false) (hbi : (bf == id) = true) :
    Calls Tryz.prog 37 #[.pointer (some ⟨p, 0, none⟩), .agg #[.int .i64 kd, .int .i64 id, .int .i64 pa, .int .i64 bf, .int .i64 ky, .string tg, .string nm, .string tx]] w fun e w' => e = .returned (.bool false) ∧ Below w.heap.size w w' := by
  subst hkd
  have hfew := h.few
  have hp := h.lt
  have c0 := h.c0
  have c1 := h.c1
  have HR := hide h
  obtain ⟨g, cap, rfl, hcc, hg, hSg, hgp, hcell⟩ := h.at (by omega)
  have n0 : w.cell? ⟨g, k * 6, none⟩ = some (.int .i64 R[k].id) := hcell k 0 hk (by omega)
  have n1 : w.cell? ⟨g, k * 6 + 1, none⟩ = some (.int .i64 R[k].par) := hcell k 1 hk (by omega)
  have n2 : w.cell? ⟨g, k * 6 + 2, none⟩ = some (.string R[k].tag) := hcell k 2 hk (by omega)
  have n3 : w.cell? ⟨g, k * 6 + 3, none⟩ = some (.int .i64 R[k].key) := hcell k 3 hk (by omega)
  have n4 : w.cell? ⟨g, k * 6 + 4, none⟩ = some (.slice R[k].ao R[k].an R[k].ac) := hcell k 4 hk (by omega)
  have n5 : w.cell? ⟨g, k * 6 + 5, none⟩ = some (.string R[k].text) := hcell k 5 hk (by omega)
  have t2 : w.cell? ⟨g, t * 6 + 2, none⟩ = some (.string R[t].tag) := hcell t 2 ht (by omega)
  have ti1 : (0 : Int) ≤ (t : Int) := by omega
  have ti2 : (t : Int) < (R.length : Int) := by omega
  have tb : decide ((t : Int) < 0) = false := by simp
  have b1 : w.cell? ⟨g, b * 6 + 1, none⟩ = some (.int .i64 R[b].par) := hcell b 1 hb (by omega)
  have bi1 : (0 : Int) ≤ (b : Int) := by omega
  have bi2 : (b : Int) < (R.length : Int) := by omega
  have bb : decide ((b : Int) < 0) = false := by simp
  have hA : ∀ w', RefAt S w' p R last (.slice (some ⟨g, 0, none⟩) R.length cap) → Calls Tryz.prog 49 #[.pointer (some ⟨p, 0, none⟩), .int .i64 id] w' fun e w'' => e = .returned (.int .i64 k) ∧ w'' = w' := by
    intro w' hw
    rw [← ha]
    exact at_any S p R last _ id w' hw
  have HA := hide hA
  clear hA ha
  have hAp : ∀ w', RefAt S w' p R last (.slice (some ⟨g, 0, none⟩) R.length cap) → Calls Tryz.prog 49 #[.pointer (some ⟨p, 0, none⟩), .int .i64 pa] w' fun e w'' => e = .returned (.int .i64 t) ∧ w'' = w' := by
    intro w' hw
    rw [← hat]
    exact at_any S p R last _ pa w' hw
  have HAp := hide hAp
  clear hAp hat
  have hAb : ∀ w', RefAt S w' p R last (.slice (some ⟨g, 0, none⟩) R.length cap) → Calls Tryz.prog 49 #[.pointer (some ⟨p, 0, none⟩), .int .i64 bf] w' fun e w'' => e = .returned (.int .i64 b) ∧ w'' = w' := by
    intro w' hw
    rw [← hab]
    exact at_any S p R last _ bf w' hw
  have HAb := hide hAb
  clear hAb hab
  clear h hcell
  generalize R[k] = nd at *
  generalize R[t].tag = tt at *
  generalize R[b].par = bp at *
  go_enter Tryz.func37, Tryz.ntmps37
  go_wp2_with (first | (go_at_call_of 49 (Value.int IntKind.i64 id); refine (unhide HA _ ((unhide HR).below ((Below.refl _ _).alloc (Nat.le_refl _) _))).mono ?_; rintro e w1 ⟨rfl, rfl⟩) | (go_at_call_of 49 (Value.int IntKind.i64 pa); refine (unhide HAp _ ((unhide HR).below (((Below.refl _ _).alloc (Nat.le_refl _) _).alloc (by simp) _))).mono ?_; rintro e w1 ⟨rfl, rfl⟩) | (go_at_call_of 49 (Value.int IntKind.i64 bf); refine (unhide HAb _ ((unhide HR).below (((Below.refl _ _).alloc (Nat.le_refl _) _).alloc (by simp) _))).mono ?_; rintro e w1 ⟨rfl, rfl⟩))
  go_big_quiet (fail)
  go_wp2_with fail
  go_ret
  exact ⟨rfl, drewN_of (((Below.refl _ _).alloc (Nat.le_refl _) _).alloc (by simp) _) _⟩
end Go.Proofs.YtobgcaemnpkbmaaGreat
