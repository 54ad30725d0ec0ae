/- DoJ -/
import Derived.Test.YtobgcaemnpkbmaaGreatD21
namespace Go.Proofs.YtobgcaemnpkbmaaGreat
open Go.RowKit
attribute [local go_sem ↓] Go.wp_at_zero Go.wp_at_succ
theorem Touch.after {S : Nat → Prop} {w w1 w2 : World} (h : Touch S w1 w2) (hb : Below w.heap.size w w1) : Touch S w w2 :=
  ⟨h.os.trans hb.os, h.tape.trans hb.tape, h.output.trans hb.output, Nat.le_trans hb.size h.size, fun k hk hn => (h.block k (Nat.lt_of_lt_of_le hk hb.size) hn).trans (hb.block k hk)⟩
theorem andNew.after {S : Nat → Prop} {w w1 w2 : World} {b : Nat} (h : andNew S w1 w2 b) (hs : w.heap.size ≤ w1.heap.size) : andNew S w w2 b := h.imp id fun h => ⟨Nat.le_trans hs h.1, h.2⟩
theorem RefAt.mono {S S' : Nat → Prop} {w : World} {p : Nat} {R : List RN} {last : Int} {v : Value} (h : RefAt S w p R last v) (hS : ∀ b, b < w.heap.size → S b → S' b) : RefAt S' w p R last v :=
  ⟨hS _ h.lt h.sp, h.c0, h.c1, h.c2, h.f0, h.f2, h.row, fun g hg => ⟨hS g (h.row.lt g hg).2 (h.srow g hg).1, (h.srow g hg).2⟩, h.few, fun n hn => (h.node n hn).mono hS, h.apart⟩
set_option maxRecDepth 100000 in
set_option maxHeartbeats 4000000 in
theorem do_ins_in0 (S : Nat → Prop) (p : Nat) (R : List RN) (last : Int) (v : Value) (kd id pa bf ky : Int) (tg nm tx : ByteArray) (w : World) (h : RefAt S w p R last v) (hk1 : (kd == 1) = false) (k : Nat) (hk : k < R.length) (ha : atP R id = (k : Int)) (hky : (ky != 0) = false) (htg : tg.toList.isEmpty = true) (hkd : kd = 2) (hnm : nm.toList.isEmpty = true) (htx : tx.toList.isEmpty = true) (hid : (id == 1) = false) (t : Nat) (ht : t < R.length) (hat0 : atP R pa = (t : Int)) (hidt : R[t].id = pa) (htag : R[t].tag.toList.isEmpty = false) (hbf : (bf != 0) = false) (bpl : Int) (hab : atP R bf = bpl) (rk : Int → Nat) (hU : Up R rk) (hin : inP R (rk pa + 1) pa id = true) :
    Calls Tryz.prog 37 #[.pointer (some ⟨p, 0, none⟩), .agg #[.int .i64 kd, .int .i64 id, .int .i64 pa, .int .i64 bf, .int .i64 ky, .string tg, .string nm, .string tx]] w fun e w' => e = .returned (.bool false) ∧ Below w.heap.size w w' := by
  subst hkd
  have hfew := h.few
  have hp := h.lt
  have c0 := h.c0
  have c1 := h.c1
  have HR := hide h
  obtain ⟨g, cap, rfl, hcc, hg, hSg, hgp, hcell⟩ := h.at (by omega)
  have n0 : w.cell? ⟨g, k * 6, none⟩ = some (.int .i64 R[k].id) := hcell k 0 hk (by omega)
  have n1 : w.cell? ⟨g, k * 6 + 1, none⟩ = some (.int .i64 R[k].par) := hcell k 1 hk (by omega)
  have n2 : w.cell? ⟨g, k * 6 + 2, none⟩ = some (.string R[k].tag) := hcell k 2 hk (by omega)
  have n3 : w.cell? ⟨g, k * 6 + 3, none⟩ = some (.int .i64 R[k].key) := hcell k 3 hk (by omega)
  have n4 : w.cell? ⟨g, k * 6 + 4, none⟩ = some (.slice R[k].ao R[k].an R[k].ac) := hcell k 4 hk (by omega)
  have n5 : w.cell? ⟨g, k * 6 + 5, none⟩ = some (.string R[k].text) := hcell k 5 hk (by omega)
  have t2 : w.cell? ⟨g, t * 6 + 2, none⟩ = some (.string R[t].tag) := hcell t 2 ht (by omega)
  have ti1 : (0 : Int) ≤ (t : Int) := by omega
  have ti2 : (t : Int) < (R.length : Int) := by omega
  have tb : decide ((t : Int) < 0) = false := by simp
  have hA : ∀ w', RefAt S w' p R last (.slice (some ⟨g, 0, none⟩) R.length cap) → Calls Tryz.prog 49 #[.pointer (some ⟨p, 0, none⟩), .int .i64 id] w' fun e w'' => e = .returned (.int .i64 k) ∧ w'' = w' := by
    intro w' hw
    rw [← ha]
    exact at_any S p R last _ id w' hw
  have HA := hide hA
  clear hA ha
  have hAp : ∀ w', RefAt S w' p R last (.slice (some ⟨g, 0, none⟩) R.length cap) → Calls Tryz.prog 49 #[.pointer (some ⟨p, 0, none⟩), .int .i64 pa] w' fun e w'' => e = .returned (.int .i64 t) ∧ w'' = w' := by
    intro w' hw
    rw [← hat0]
    exact at_any S p R last _ pa w' hw
  have HAp := hide hAp
  clear hAp hat0
  have hAb : ∀ w', RefAt S w' p R last (.slice (some ⟨g, 0, none⟩) R.length cap) → Calls Tryz.prog 49 #[.pointer (some ⟨p, 0, none⟩), .int .i64 bf] w' fun e w'' => e = .returned (.int .i64 bpl) ∧ w'' = w' := by
    intro w' hw
    rw [← hab]
    exact at_any S p R last _ bf w' hw
  have HAb := hide hAb
  clear hAb hab
  have hWi : ∀ w', RefAt S w' p R last (.slice (some ⟨g, 0, none⟩) R.length cap) → Calls Tryz.prog 54 #[.pointer (some ⟨p, 0, none⟩), .int .i64 pa, .int .i64 id] w' fun e w'' => e = .returned (.bool true) ∧ Below w'.heap.size w' w'' := by
    intro w' hw
    rw [← hin]
    exact within_any S p R last _ rk hU pa id ⟨R[t], List.getElem_mem ht, hidt⟩ w' hw
  have HWi := hide hWi
  clear hWi hin hU hidt
  clear h hcell
  generalize R[k] = nd at *
  generalize R[t].tag = tt at *
  go_enter Tryz.func37, Tryz.ntmps37
  go_wp2_with (first | (go_at_call_of 49 (Value.int IntKind.i64 id); refine (unhide HA _ ((unhide HR).below ((Below.refl _ _).alloc (Nat.le_refl _) _))).mono ?_; rintro e w1 ⟨rfl, rfl⟩) | (go_at_call_of 49 (Value.int IntKind.i64 pa); refine (unhide HAp _ ((unhide HR).below (((Below.refl _ _).alloc (Nat.le_refl _) _).alloc (by simp) _))).mono ?_; rintro e w1 ⟨rfl, rfl⟩) | (go_at_call_of 49 (Value.int IntKind.i64 bf); refine (unhide HAb _ ((unhide HR).below (((Below.refl _ _).alloc (Nat.le_refl _) _).alloc (by simp) _))).mono ?_; rintro e w1 ⟨rfl, rfl⟩))
  go_big_quiet (fail)
  go_wp2_with (first | (go_at_call 54; refine (unhide HWi _ ((unhide HR).below (drewN_of (((Below.refl _ _).alloc (Nat.le_refl _) _).alloc (by simp) _) _))).mono ?_; rintro e w3 ⟨rfl, hb3⟩))
  go_ret
  exact ⟨rfl, (drewN_of (((Below.refl _ _).alloc (Nat.le_refl _) _).alloc (by simp) _) _).trans (hb3.mono (by simp; omega))⟩
set_option maxRecDepth 100000 in
set_option maxHeartbeats 4000000 in
theorem do_ins_in1 (S : Nat → Prop) (p : Nat) (R : List RN) (last : Int) (v : Value) (kd id pa bf ky : Int) (tg nm tx : ByteArray) (w : World) (h : RefAt S w p R last v) (hk1 : (kd == 1) = false) (k : Nat) (hk : k < R.length) (ha : atP R id = (k : Int)) (hky : (ky != 0) = false) (htg : tg.toList.isEmpty = true) (hkd : kd = 2) (hnm : nm.toList.isEmpty = true) (htx : tx.toList.isEmpty = true) (hid : (id == 1) = false) (t : Nat) (ht : t < R.length) (hat0 : atP R pa = (t : Int)) (hidt : R[t].id = pa) (htag : R[t].tag.toList.isEmpty = false) (hbf : (bf != 0) = true) (b : Nat) (hb : b < R.length) (hab : atP R bf = (b : Int)) (hbp : (R[b].par != pa) = false) (hbi : (bf == id) = false) (rk : Int → Nat) (hU : Up R rk) (hin : inP R (rk pa + 1) pa id = true) :
    Calls Tryz.prog 37 #[.pointer (some ⟨p, 0, none⟩), .agg #[.int .i64 kd, .int .i64 id, .int .i64 pa, .int .i64 bf, .int .i64 ky, .string tg, .string nm, .string tx]] w fun e w' => e = .returned (.bool false) ∧ Below w.heap.size w w' := by
  subst hkd
  have hfew := h.few
  have hp := h.lt
  have c0 := h.c0
  have c1 := h.c1
  have HR := hide h
  obtain ⟨g, cap, rfl, hcc, hg, hSg, hgp, hcell⟩ := h.at (by omega)
  have n0 : w.cell? ⟨g, k * 6, none⟩ = some (.int .i64 R[k].id) := hcell k 0 hk (by omega)
  have n1 : w.cell? ⟨g, k * 6 + 1, none⟩ = some (.int .i64 R[k].par) := hcell k 1 hk (by omega)
  have n2 : w.cell? ⟨g, k * 6 + 2, none⟩ = some (.string R[k].tag) := hcell k 2 hk (by omega)
  have n3 : w.cell? ⟨g, k * 6 + 3, none⟩ = some (.int .i64 R[k].key) := hcell k 3 hk (by omega)
  have n4 : w.cell? ⟨g, k * 6 + 4, none⟩ = some (.slice R[k].ao R[k].an R[k].ac) := hcell k 4 hk (by omega)
  have n5 : w.cell? ⟨g, k * 6 + 5, none⟩ = some (.string R[k].text) := hcell k 5 hk (by omega)
  have t2 : w.cell? ⟨g, t * 6 + 2, none⟩ = some (.string R[t].tag) := hcell t 2 ht (by omega)
  have ti1 : (0 : Int) ≤ (t : Int) := by omega
  have ti2 : (t : Int) < (R.length : Int) := by omega
  have tb : decide ((t : Int) < 0) = false := by simp
  have b1 : w.cell? ⟨g, b * 6 + 1, none⟩ = some (.int .i64 R[b].par) := hcell b 1 hb (by omega)
  have bi1 : (0 : Int) ≤ (b : Int) := by omega
  have bi2 : (b : Int) < (R.length : Int) := by omega
  have bb : decide ((b : Int) < 0) = false := by simp
  have hA : ∀ w', RefAt S w' p R last (.slice (some ⟨g, 0, none⟩) R.length cap) → Calls Tryz.prog 49 #[.pointer (some ⟨p, 0, none⟩), .int .i64 id] w' fun e w'' => e = .returned (.int .i64 k) ∧ w'' = w' := by
    intro w' hw
    rw [← ha]
    exact at_any S p R last _ id w' hw
  have HA := hide hA
  clear hA ha
  have hAp : ∀ w', RefAt S w' p R last (.slice (some ⟨g, 0, none⟩) R.length cap) → Calls Tryz.prog 49 #[.pointer (some ⟨p, 0, none⟩), .int .i64 pa] w' fun e w'' => e = .returned (.int .i64 t) ∧ w'' = w' := by
    intro w' hw
    rw [← hat0]
    exact at_any S p R last _ pa w' hw
  have HAp := hide hAp
  clear hAp hat0
  have hAb : ∀ w', RefAt S w' p R last (.slice (some ⟨g, 0, none⟩) R.length cap) → Calls Tryz.prog 49 #[.pointer (some ⟨p, 0, none⟩), .int .i64 bf] w' fun e w'' => e = .returned (.int .i64 b) ∧ w'' = w' := by
    intro w' hw
    rw [← hab]
    exact at_any S p R last _ bf w' hw
  have HAb := hide hAb
  clear hAb hab
  have hWi : ∀ w', RefAt S w' p R last (.slice (some ⟨g, 0, none⟩) R.length cap) → Calls Tryz.prog 54 #[.pointer (some ⟨p, 0, none⟩), .int .i64 pa, .int .i64 id] w' fun e w'' => e = .returned (.bool true) ∧ Below w'.heap.size w' w'' := by
    intro w' hw
    rw [← hin]
    exact within_any S p R last _ rk hU pa id ⟨R[t], List.getElem_mem ht, hidt⟩ w' hw
  have HWi := hide hWi
  clear hWi hin hU hidt
  clear h hcell
  generalize R[k] = nd at *
  generalize R[t].tag = tt at *
  generalize R[b].par = bp at *
  go_enter Tryz.func37, Tryz.ntmps37
  go_wp2_with (first | (go_at_call_of 49 (Value.int IntKind.i64 id); refine (unhide HA _ ((unhide HR).below ((Below.refl _ _).alloc (Nat.le_refl _) _))).mono ?_; rintro e w1 ⟨rfl, rfl⟩) | (go_at_call_of 49 (Value.int IntKind.i64 pa); refine (unhide HAp _ ((unhide HR).below (((Below.refl _ _).alloc (Nat.le_refl _) _).alloc (by simp) _))).mono ?_; rintro e w1 ⟨rfl, rfl⟩) | (go_at_call_of 49 (Value.int IntKind.i64 bf); refine (unhide HAb _ ((unhide HR).below (((Below.refl _ _).alloc (Nat.le_refl _) _).alloc (by simp) _))).mono ?_; rintro e w1 ⟨rfl, rfl⟩))
  go_big_quiet (fail)
  go_wp2_with (first | (go_at_call 54; refine (unhide HWi _ ((unhide HR).below (drewN_of (((Below.refl _ _).alloc (Nat.le_refl _) _).alloc (by simp) _) _))).mono ?_; rintro e w3 ⟨rfl, hb3⟩))
  go_ret
  exact ⟨rfl, (drewN_of (((Below.refl _ _).alloc (Nat.le_refl _) _).alloc (by simp) _) _).trans (hb3.mono (by simp; omega))⟩
set_option maxRecDepth 100000 in
set_option maxHeartbeats 4000000 in
theorem do_ins_ok0 (S : Nat → Prop) (p : Nat) (R : List RN) (last : Int) (v : Value) (kd id pa bf ky : Int) (tg nm tx : ByteArray) (w : World) (h : RefAt S w p R last v) (hk1 : (kd == 1) = false) (k : Nat) (hk : k < R.length) (ha : atP R id = (k : Int)) (hky : (ky != 0) = false) (htg : tg.toList.isEmpty = true) (hkd : kd = 2) (hnm : nm.toList.isEmpty = true) (htx : tx.toList.isEmpty = true) (hid : (id == 1) = false) (t : Nat) (ht : t < R.length) (hat0 : atP R pa = (t : Int)) (hidt : R[t].id = pa) (htag : R[t].tag.toList.isEmpty = false) (hbf : (bf != 0) = false) (bpl : Int) (hab : atP R bf = bpl) (ha0 : atP R id = (k : Int)) (hlen : (insP R { R[k] with par := pa } k bf).length ≤ 800) (hmem : ∀ n, n ∈ insP R { R[k] with par := pa } k bf → n ∈ R ∨ n = { R[k] with par := pa }) (rk : Int → Nat) (hU : Up R rk) (hin : inP R (rk pa + 1) pa id = false) :
    Calls Tryz.prog 37 #[.pointer (some ⟨p, 0, none⟩), .agg #[.int .i64 kd, .int .i64 id, .int .i64 pa, .int .i64 bf, .int .i64 ky, .string tg, .string nm, .string tx]] w fun e w' => e = .returned (.bool true) ∧ Touch (fun b => b = p) w w' ∧ ∃ v', RefAt (andNew S w w') w' p (insP R { R[k] with par := pa } k bf) last v' := by
  subst hkd
  have hfew := h.few
  have hp := h.lt
  have c0 := h.c0
  have c1 := h.c1
  have HR := hide h
  obtain ⟨g, cap, rfl, hcc, hg, hSg, hgp, hcell⟩ := h.at (by omega)
  have n0 : w.cell? ⟨g, k * 6, none⟩ = some (.int .i64 R[k].id) := hcell k 0 hk (by omega)
  have n1 : w.cell? ⟨g, k * 6 + 1, none⟩ = some (.int .i64 R[k].par) := hcell k 1 hk (by omega)
  have n2 : w.cell? ⟨g, k * 6 + 2, none⟩ = some (.string R[k].tag) := hcell k 2 hk (by omega)
  have n3 : w.cell? ⟨g, k * 6 + 3, none⟩ = some (.int .i64 R[k].key) := hcell k 3 hk (by omega)
  have n4 : w.cell? ⟨g, k * 6 + 4, none⟩ = some (.slice R[k].ao R[k].an R[k].ac) := hcell k 4 hk (by omega)
  have n5 : w.cell? ⟨g, k * 6 + 5, none⟩ = some (.string R[k].text) := hcell k 5 hk (by omega)
  have t2 : w.cell? ⟨g, t * 6 + 2, none⟩ = some (.string R[t].tag) := hcell t 2 ht (by omega)
  have ti1 : (0 : Int) ≤ (t : Int) := by omega
  have ti2 : (t : Int) < (R.length : Int) := by omega
  have tb : decide ((t : Int) < 0) = false := by simp
  have hA : ∀ w', RefAt S w' p R last (.slice (some ⟨g, 0, none⟩) R.length cap) → Calls Tryz.prog 49 #[.pointer (some ⟨p, 0, none⟩), .int .i64 id] w' fun e w'' => e = .returned (.int .i64 k) ∧ w'' = w' := by
    intro w' hw
    rw [← ha]
    exact at_any S p R last _ id w' hw
  have HA := hide hA
  clear hA ha
  have hAp : ∀ w', RefAt S w' p R last (.slice (some ⟨g, 0, none⟩) R.length cap) → Calls Tryz.prog 49 #[.pointer (some ⟨p, 0, none⟩), .int .i64 pa] w' fun e w'' => e = .returned (.int .i64 t) ∧ w'' = w' := by
    intro w' hw
    rw [← hat0]
    exact at_any S p R last _ pa w' hw
  have HAp := hide hAp
  clear hAp hat0
  have hAb : ∀ w', RefAt S w' p R last (.slice (some ⟨g, 0, none⟩) R.length cap) → Calls Tryz.prog 49 #[.pointer (some ⟨p, 0, none⟩), .int .i64 bf] w' fun e w'' => e = .returned (.int .i64 bpl) ∧ w'' = w' := by
    intro w' hw
    rw [← hab]
    exact at_any S p R last _ bf w' hw
  have HAb := hide hAb
  clear hAb hab
  have hWi : ∀ w', RefAt S w' p R last (.slice (some ⟨g, 0, none⟩) R.length cap) → Calls Tryz.prog 54 #[.pointer (some ⟨p, 0, none⟩), .int .i64 pa, .int .i64 id] w' fun e w'' => e = .returned (.bool false) ∧ Below w'.heap.size w' w'' := by
    intro w' hw
    rw [← hin]
    exact within_any S p R last _ rk hU pa id ⟨R[t], List.getElem_mem ht, hidt⟩ w' hw
  have HWi := hide hWi
  clear hWi hin hU hidt
  have hIn : ∀ w', RefAt S w' p R last (.slice (some ⟨g, 0, none⟩) R.length cap) → Calls Tryz.prog 55 #[.pointer (some ⟨p, 0, none⟩), .agg #[.int .i64 2, .int .i64 id, .int .i64 pa, .int .i64 bf, .int .i64 ky, .string tg, .string nm, .string tx]] w' fun e w'' => e = .returned (.tuple #[]) ∧ ∃ v', RefAt (andNew S w' w'') w'' p (insP R { R[k] with par := pa } k bf) last v' ∧ Touch (fun b => b = p) w' w'' :=
    fun w' hw => insert_any S p R last _ 2 id pa bf ky tg nm tx k hk ha0 w' hw hlen hmem
  have HIn := hide hIn
  clear hIn hlen hmem ha0
  generalize insP R { R[k] with par := pa } k bf = RI at *
  clear h hcell
  generalize R[k] = nd at *
  generalize R[t].tag = tt at *
  go_enter Tryz.func37, Tryz.ntmps37
  go_wp2_with (first | (go_at_call_of 49 (Value.int IntKind.i64 id); refine (unhide HA _ ((unhide HR).below ((Below.refl _ _).alloc (Nat.le_refl _) _))).mono ?_; rintro e w1 ⟨rfl, rfl⟩) | (go_at_call_of 49 (Value.int IntKind.i64 pa); refine (unhide HAp _ ((unhide HR).below (((Below.refl _ _).alloc (Nat.le_refl _) _).alloc (by simp) _))).mono ?_; rintro e w1 ⟨rfl, rfl⟩) | (go_at_call_of 49 (Value.int IntKind.i64 bf); refine (unhide HAb _ ((unhide HR).below (((Below.refl _ _).alloc (Nat.le_refl _) _).alloc (by simp) _))).mono ?_; rintro e w1 ⟨rfl, rfl⟩))
  go_big_quiet (fail)
  go_wp2_with (first | (go_at_call 54; refine (unhide HWi _ ((unhide HR).below (drewN_of (((Below.refl _ _).alloc (Nat.le_refl _) _).alloc (by simp) _) _))).mono ?_; rintro e w3 ⟨rfl, hb3⟩; have y0 : w3.cell? ⟨w.heap.size, 0, none⟩ = some (.int .i64 2) := (hb3.cell (p := ⟨w.heap.size, 0, none⟩) (by simp; omega)).trans (by simp [go_sem]); have y1 : w3.cell? ⟨w.heap.size, 1, none⟩ = some (.int .i64 id) := (hb3.cell (p := ⟨w.heap.size, 1, none⟩) (by simp; omega)).trans (by simp [go_sem]); have y2 : w3.cell? ⟨w.heap.size, 2, none⟩ = some (.int .i64 pa) := (hb3.cell (p := ⟨w.heap.size, 2, none⟩) (by simp; omega)).trans (by simp [go_sem]); have y3 : w3.cell? ⟨w.heap.size, 3, none⟩ = some (.int .i64 bf) := (hb3.cell (p := ⟨w.heap.size, 3, none⟩) (by simp; omega)).trans (by simp [go_sem]); have y4 : w3.cell? ⟨w.heap.size, 4, none⟩ = some (.int .i64 ky) := (hb3.cell (p := ⟨w.heap.size, 4, none⟩) (by simp; omega)).trans (by simp [go_sem]); have y5 : w3.cell? ⟨w.heap.size, 5, none⟩ = some (.string tg) := (hb3.cell (p := ⟨w.heap.size, 5, none⟩) (by simp; omega)).trans (by simp [go_sem]); have y6 : w3.cell? ⟨w.heap.size, 6, none⟩ = some (.string nm) := (hb3.cell (p := ⟨w.heap.size, 6, none⟩) (by simp; omega)).trans (by simp [go_sem]); have y7 : w3.cell? ⟨w.heap.size, 7, none⟩ = some (.string tx) := (hb3.cell (p := ⟨w.heap.size, 7, none⟩) (by simp; omega)).trans (by simp [go_sem])) | (go_at_call 55; refine (unhide HIn _ ((unhide HR).below ((drewN_of (((Below.refl _ _).alloc (Nat.le_refl _) _).alloc (by simp) _) _).trans (hb3.mono (by simp; omega))))).mono ?_; rintro e w4 ⟨rfl, v4, hR4, hT4⟩))
  go_ret
  have hbx : Below w.heap.size w w3 := (drewN_of (((Below.refl _ _).alloc (Nat.le_refl _) _).alloc (by simp) _) _).trans (hb3.mono (by simp; omega))
  exact ⟨rfl, hT4.after hbx, v4, hR4.mono (fun b _ hb => hb.after hbx.size)⟩
set_option maxRecDepth 100000 in
set_option maxHeartbeats 4000000 in
theorem do_ins_ok1 (S : Nat → Prop) (p : Nat) (R : List RN) (last : Int) (v : Value) (kd id pa bf ky : Int) (tg nm tx : ByteArray) (w : World) (h : RefAt S w p R last v) (hk1 : (kd == 1) = false) (k : Nat) (hk : k < R.length) (ha : atP R id = (k : Int)) (hky : (ky != 0) = false) (htg : tg.toList.isEmpty = true) (hkd : kd = 2) (hnm : nm.toList.isEmpty = true) (htx : tx.toList.isEmpty = true) (hid : (id == 1) = false) (t : Nat) (ht : t < R.length) (hat0 : atP R pa = (t : Int)) (hidt : R[t].id = pa) (htag : R[t].tag.toList.isEmpty = false) (hbf : (bf != 0) = true) (b : Nat) (hb : b < R.length) (hab : atP R bf = (b : Int)) (hbp : (R[b].par != pa) = false) (hbi : (bf == id) = false) (ha0 : atP R id = (k : Int)) (hlen : (insP R { R[k] with par := pa } k bf).length ≤ 800) (hmem : ∀ n, n ∈ insP R { R[k] with par := pa } k bf → n ∈ R ∨ n = { R[k] with par := pa }) (rk : Int → Nat) (hU : Up R rk) (hin : inP R (rk pa + 1) pa id = false) :
    Calls Tryz.prog 37 #[.pointer (some ⟨p, 0, none⟩), .agg #[.int .i64 kd, .int .i64 id, .int .i64 pa, .int .i64 bf, .int .i64 ky, .string tg, .string nm, .string tx]] w fun e w' => e = .returned (.bool true) ∧ Touch (fun b => b = p) w w' ∧ ∃ v', RefAt (andNew S w w') w' p (insP R { R[k] with par := pa } k bf) last v' := by
  subst hkd
  have hfew := h.few
  have hp := h.lt
  have c0 := h.c0
  have c1 := h.c1
  have HR := hide h
  obtain ⟨g, cap, rfl, hcc, hg, hSg, hgp, hcell⟩ := h.at (by omega)
  have n0 : w.cell? ⟨g, k * 6, none⟩ = some (.int .i64 R[k].id) := hcell k 0 hk (by omega)
  have n1 : w.cell? ⟨g, k * 6 + 1, none⟩ = some (.int .i64 R[k].par) := hcell k 1 hk (by omega)
  have n2 : w.cell? ⟨g, k * 6 + 2, none⟩ = some (.string R[k].tag) := hcell k 2 hk (by omega)
  have n3 : w.cell? ⟨g, k * 6 + 3, none⟩ = some (.int .i64 R[k].key) := hcell k 3 hk (by omega)
  have n4 : w.cell? ⟨g, k * 6 + 4, none⟩ = some (.slice R[k].ao R[k].an R[k].ac) := hcell k 4 hk (by omega)
  have n5 : w.cell? ⟨g, k * 6 + 5, none⟩ = some (.string R[k].text) := hcell k 5 hk (by omega)
  have t2 : w.cell? ⟨g, t * 6 + 2, none⟩ = some (.string R[t].tag) := hcell t 2 ht (by omega)
  have ti1 : (0 : Int) ≤ (t : Int) := by omega
  have ti2 : (t : Int) < (R.length : Int) := by omega
  have tb : decide ((t : Int) < 0) = false := by simp
  have b1 : w.cell? ⟨g, b * 6 + 1, none⟩ = some (.int .i64 R[b].par) := hcell b 1 hb (by omega)
  have bi1 : (0 : Int) ≤ (b : Int) := by omega
  have bi2 : (b : Int) < (R.length : Int) := by omega
  have bb : decide ((b : Int) < 0) = false := by simp
  have hA : ∀ w', RefAt S w' p R last (.slice (some ⟨g, 0, none⟩) R.length cap) → Calls Tryz.prog 49 #[.pointer (some ⟨p, 0, none⟩), .int .i64 id] w' fun e w'' => e = .returned (.int .i64 k) ∧ w'' = w' := by
    intro w' hw
    rw [← ha]
    exact at_any S p R last _ id w' hw
  have HA := hide hA
  clear hA ha
  have hAp : ∀ w', RefAt S w' p R last (.slice (some ⟨g, 0, none⟩) R.length cap) → Calls Tryz.prog 49 #[.pointer (some ⟨p, 0, none⟩), .int .i64 pa] w' fun e w'' => e = .returned (.int .i64 t) ∧ w'' = w' := by
    intro w' hw
    rw [← hat0]
    exact at_any S p R last _ pa w' hw
  have HAp := hide hAp
  clear hAp hat0
  have hAb : ∀ w', RefAt S w' p R last (.slice (some ⟨g, 0, none⟩) R.length cap) → Calls Tryz.prog 49 #[.pointer (some ⟨p, 0, none⟩), .int .i64 bf] w' fun e w'' => e = .returned (.int .i64 b) ∧ w'' = w' := by
    intro w' hw
    rw [← hab]
    exact at_any S p R last _ bf w' hw
  have HAb := hide hAb
  clear hAb hab
  have hWi : ∀ w', RefAt S w' p R last (.slice (some ⟨g, 0, none⟩) R.length cap) → Calls Tryz.prog 54 #[.pointer (some ⟨p, 0, none⟩), .int .i64 pa, .int .i64 id] w' fun e w'' => e = .returned (.bool false) ∧ Below w'.heap.size w' w'' := by
    intro w' hw
    rw [← hin]
    exact within_any S p R last _ rk hU pa id ⟨R[t], List.getElem_mem ht, hidt⟩ w' hw
  have HWi := hide hWi
  clear hWi hin hU hidt
  have hIn : ∀ w', RefAt S w' p R last (.slice (some ⟨g, 0, none⟩) R.length cap) → Calls Tryz.prog 55 #[.pointer (some ⟨p, 0, none⟩), .agg #[.int .i64 2, .int .i64 id, .int .i64 pa, .int .i64 bf, .int .i64 ky, .string tg, .string nm, .string tx]] w' fun e w'' => e = .returned (.tuple #[]) ∧ ∃ v', RefAt (andNew S w' w'') w'' p (insP R { R[k] with par := pa } k bf) last v' ∧ Touch (fun b => b = p) w' w'' :=
    fun w' hw => insert_any S p R last _ 2 id pa bf ky tg nm tx k hk ha0 w' hw hlen hmem
  have HIn := hide hIn
  clear hIn hlen hmem ha0
  generalize insP R { R[k] with par := pa } k bf = RI at *
  clear h hcell
  generalize R[k] = nd at *
  generalize R[t].tag = tt at *
  generalize R[b].par = bp at *
  go_enter Tryz.func37, Tryz.ntmps37
  go_wp2_with (first | (go_at_call_of 49 (Value.int IntKind.i64 id); refine (unhide HA _ ((unhide HR).below ((Below.refl _ _).alloc (Nat.le_refl _) _))).mono ?_; rintro e w1 ⟨rfl, rfl⟩) | (go_at_call_of 49 (Value.int IntKind.i64 pa); refine (unhide HAp _ ((unhide HR).below (((Below.refl _ _).alloc (Nat.le_refl _) _).alloc (by simp) _))).mono ?_; rintro e w1 ⟨rfl, rfl⟩) | (go_at_call_of 49 (Value.int IntKind.i64 bf); refine (unhide HAb _ ((unhide HR).below (((Below.refl _ _).alloc (Nat.le_refl _) _).alloc (by simp) _))).mono ?_; rintro e w1 ⟨rfl, rfl⟩))
  go_big_quiet (fail)
  go_wp2_with (first | (go_at_call 54; refine (unhide HWi _ ((unhide HR).below (drewN_of (((Below.refl _ _).alloc (Nat.le_refl _) _).alloc (by simp) _) _))).mono ?_; rintro e w3 ⟨rfl, hb3⟩; have y0 : w3.cell? ⟨w.heap.size, 0, none⟩ = some (.int .i64 2) := (hb3.cell (p := ⟨w.heap.size, 0, none⟩) (by simp; omega)).trans (by simp [go_sem]); have y1 : w3.cell? ⟨w.heap.size, 1, none⟩ = some (.int .i64 id) := (hb3.cell (p := ⟨w.heap.size, 1, none⟩) (by simp; omega)).trans (by simp [go_sem]); have y2 : w3.cell? ⟨w.heap.size, 2, none⟩ = some (.int .i64 pa) := (hb3.cell (p := ⟨w.heap.size, 2, none⟩) (by simp; omega)).trans (by simp [go_sem]); have y3 : w3.cell? ⟨w.heap.size, 3, none⟩ = some (.int .i64 bf) := (hb3.cell (p := ⟨w.heap.size, 3, none⟩) (by simp; omega)).trans (by simp [go_sem]); have y4 : w3.cell? ⟨w.heap.size, 4, none⟩ = some (.int .i64 ky) := (hb3.cell (p := ⟨w.heap.size, 4, none⟩) (by simp; omega)).trans (by simp [go_sem]); have y5 : w3.cell? ⟨w.heap.size, 5, none⟩ = some (.string tg) := (hb3.cell (p := ⟨w.heap.size, 5, none⟩) (by simp; omega)).trans (by simp [go_sem]); have y6 : w3.cell? ⟨w.heap.size, 6, none⟩ = some (.string nm) := (hb3.cell (p := ⟨w.heap.size, 6, none⟩) (by simp; omega)).trans (by simp [go_sem]); have y7 : w3.cell? ⟨w.heap.size, 7, none⟩ = some (.string tx) := (hb3.cell (p := ⟨w.heap.size, 7, none⟩) (by simp; omega)).trans (by simp [go_sem])) | (go_at_call 55; refine (unhide HIn _ ((unhide HR).below ((drewN_of (((Below.refl _ _).alloc (Nat.le_refl _) _).alloc (by simp) _) _).trans (hb3.mono (by simp; omega))))).mono ?_; rintro e w4 ⟨rfl, v4, hR4, hT4⟩))
  go_ret
  have hbx : Below w.heap.size w w3 := (drewN_of (((Below.refl _ _).alloc (Nat.le_refl _) _).alloc (by simp) _) _).trans (hb3.mono (by simp; omega))
  exact ⟨rfl, hT4.after hbx, v4, hR4.mono (fun b _ hb => hb.after hbx.size)⟩
end Go.Proofs.YtobgcaemnpkbmaaGreat
