/- DoT -/
import Derived.Test.YtobgcaemnpkbmaaGreatD23
import Derived.Test.YtobgcaemnpkbmaaGreatD13
namespace Go.Proofs.YtobgcaemnpkbmaaGreat
open Go.RowKit
attribute [local go_sem ↓] Go.wp_at_zero Go.wp_at_succ
set_option maxRecDepth 100000 in
set_option maxHeartbeats 4000000 in
theorem do_wri_ok (S : Nat → Prop) (p : Nat) (R : List RN) (last : Int) (v : Value) (kd id pa bf ky : Int) (tg nm tx : ByteArray) (w : World) (h : RefAt S w p R last v) (hk1 : (kd == 1) = false) (k : Nat) (hk : k < R.length) (ha : atP R id = (k : Int)) (hky : (ky != 0) = false) (htg : tg.toList.isEmpty = true) (hpa : (pa != 0) = false) (hbf : (bf != 0) = false) (hkd : kd = 6) (hnm : nm.toList.isEmpty = true) (htx : (tx.size : Int) ≤ 20) (htag : R[k].tag.toList.isEmpty = true) :
    Calls Tryz.prog 37 #[.pointer (some ⟨p, 0, none⟩), .agg #[.int .i64 kd, .int .i64 id, .int .i64 pa, .int .i64 bf, .int .i64 ky, .string tg, .string nm, .string tx]] w fun e w' => e = .returned (.bool true) ∧ Touch S w w' ∧ ∃ v', RefAt (andNew S w w') w' p (R.set k { R[k] with text := tx }) last v' := by
  subst hkd
  have hfew := h.few
  have hp := h.lt
  have c0 := h.c0
  have c1 := h.c1
  have HR := hide h
  obtain ⟨g, cap, rfl, hcc, hg, hSg, hgp, hcell⟩ := h.at (by omega)
  have n0 : w.cell? ⟨g, k * 6, none⟩ = some (.int .i64 R[k].id) := hcell k 0 hk (by omega)
  have n1 : w.cell? ⟨g, k * 6 + 1, none⟩ = some (.int .i64 R[k].par) := hcell k 1 hk (by omega)
  have n2 : w.cell? ⟨g, k * 6 + 2, none⟩ = some (.string R[k].tag) := hcell k 2 hk (by omega)
  have n3 : w.cell? ⟨g, k * 6 + 3, none⟩ = some (.int .i64 R[k].key) := hcell k 3 hk (by omega)
  have n4 : w.cell? ⟨g, k * 6 + 4, none⟩ = some (.slice R[k].ao R[k].an R[k].ac) := hcell k 4 hk (by omega)
  have n5 : w.cell? ⟨g, k * 6 + 5, none⟩ = some (.string R[k].text) := hcell k 5 hk (by omega)
  have fr : ∀ r, w.frozen? ⟨g, k * 6 + r, none⟩ = false := fun r => h.row.frozenAt (k * 6 + r)
  have hA : ∀ w', RefAt S w' p R last (.slice (some ⟨g, 0, none⟩) R.length cap) → Calls Tryz.prog 49 #[.pointer (some ⟨p, 0, none⟩), .int .i64 id] w' fun e w'' => e = .returned (.int .i64 k) ∧ w'' = w' := by
    intro w' hw
    rw [← ha]
    exact at_any S p R last _ id w' hw
  have HA := hide hA
  clear hA ha
  have HOk := hide (h.node R[k] (List.getElem_mem hk))
  have HAp := hide (fun ad (e : R[k].ao = some ad) => h.apart R[k] (List.getElem_mem hk) ad e)
  have HNN : Hid (∀ n : RN, n = { R[k] with text := tx } → (R[k]).cells.set 5 (.string tx) = n.cells) := by intro n e; subst e; rfl
  clear h hcell
  generalize hnd : R[k] = nd at *
  have HND := hide hnd
  clear hnd
  go_enter Tryz.func37, Tryz.ntmps37
  go_wp2_with (first | (go_at_call_of 49 (Value.int IntKind.i64 id); refine (unhide HA _ ((unhide HR).below ((Below.refl _ _).alloc (Nat.le_refl _) _))).mono ?_; rintro e w1 ⟨rfl, rfl⟩))
  generalize hw2 : (w.alloc (.cells #[.int .i64 6, .int .i64 id, .int .i64 pa, .int .i64 bf, .int .i64 ky, .string tg, .string nm, .string tx] 29)).alloc (.cells #[.int .i64 nd.id, .int .i64 nd.par, .string nd.tag, .int .i64 nd.key, .slice nd.ao nd.an nd.ac, .string nd.text] 91) = w2
  have hb2 : Below w.heap.size w w2 := by rw [← hw2]; exact (((Below.refl _ _).alloc (Nat.le_refl _) _).alloc (by simp) _)
  have q7 : w2.cell? ⟨w.heap.size, 7, none⟩ = some (.string tx) := by rw [← hw2]; simp [go_sem]
  have e0 := (hb2.cell (p := ⟨p, 0, none⟩) hp).trans c0
  have e5 := (hb2.cell (p := ⟨g, k * 6 + 5, none⟩) hg).trans n5
  have ef := (hb2.frozen (p := ⟨g, k * 6 + 5, none⟩) hg).trans (fr 5)
  have HB2 := hide hb2
  have HR2 := hide (HR.out.below hb2)
  have gb : g ≠ w.heap.size := by omega
  have gb' : w.heap.size ≠ g := by omega
  have gp' : p ≠ g := fun e => hgp e.symm
  clear hw2 hb2 c0 c1 n0 n1 n2 n3 n4 n5 fr
  have i1 : (0 : Int) ≤ (k : Int) := by omega
  have i2 : (k : Int) < (R.length : Int) := by omega
  go_region_held3 (fun w' => w'.frozen? ⟨g, k * 6 + 5, none⟩ = false ∧ w'.cell? ⟨p, 0, none⟩ = some (.slice (some ⟨g, 0, none⟩) R.length cap) ∧ w'.cell? ⟨w.heap.size, 7, none⟩ = some (.string tx))
    (first | go_keep | (go_split_ands; refine ⟨?_, ?_, ?_⟩ <;> go_keep)) (fail)
  go_wp2_with fail
  go_ret
  have hRk : R[k] = nd := HND.out
  have hz := HR2.out.wrote (S' := andNew S w ((w2.setCell ⟨g, k * 6 + 5, none⟩ (.string tx)).drew)) (fun b _ h => .inl h) k 5 (.string tx) { R[k] with text := tx } hk (by omega) rfl (by
    have ok := (HR2.out.node R[k] (List.getElem_mem hk))
    have ap := fun ad (e : R[k].ao = some ad) => HR2.out.apart R[k] (List.getElem_mem hk) ad e
    refine ⟨⟨ok.an, ok.few, ok.nil, ok.tag, by show tx.size ≤ maxLen; unfold maxLen; omega, ok.at', fun ad e => ⟨.inl (ok.own ad e).1, (ok.own ad e).2⟩⟩, fun ad e => ⟨(ap ad e).1, fun e2 => (ap ad e).2 (by rw [e2]; rfl)⟩⟩)
  rw [hRk] at hz
  refine ⟨rfl, ⟨HB2.out.os, HB2.out.tape, HB2.out.output, by show _ ≤ (w2.setCell _ _).heap.size; rw [size_setCell']; exact HB2.out.size, fun b hb hn => ?_⟩, _, hz.below (Below.refl _ _).drew⟩
  exact (Below.heap_setCell w2 ⟨g, k * 6 + 5, none⟩ (.string tx) b (fun e => hn (by rw [e]; exact hSg))).trans (HB2.out.block b hb)
set_option maxRecDepth 100000 in
set_option maxHeartbeats 4000000 in
theorem do_uns_not (S : Nat → Prop) (p : Nat) (R : List RN) (last : Int) (v : Value) (kd id pa bf ky : Int) (tg nm tx : ByteArray) (w : World) (h : RefAt S w p R last v) (hk1 : (kd == 1) = false) (k : Nat) (hk : k < R.length) (ha : atP R id = (k : Int)) (hky : (ky != 0) = false) (htg : tg.toList.isEmpty = true) (hpa : (pa != 0) = false) (hbf : (bf != 0) = false) (hk2 : (kd == 2) = false) (hk3 : (kd == 3) = false) (hk6 : (kd == 6) = false) (hk2' : (kd != 2) = true) (hnmo : nm.size ≤ maxLen) (hnr : nameB nm = true) (htag : R[k].tag.toList.isEmpty = false) (htx : (tx.size : Int) ≤ 20) (hk4 : (kd != 4) = true) (hk5' : (kd != 5) = false) (hk5 : (kd == 5) = true) (hhas : R[k].an ≤ (unsetP R[k].ats nm).length) :
    Calls Tryz.prog 37 #[.pointer (some ⟨p, 0, none⟩), .agg #[.int .i64 kd, .int .i64 id, .int .i64 pa, .int .i64 bf, .int .i64 ky, .string tg, .string nm, .string tx]] w fun e w' => e = .returned (.bool false) ∧ Below w.heap.size w w' := by
  have hfew := h.few
  have hp := h.lt
  have c0 := h.c0
  have c1 := h.c1
  have HR := hide h
  obtain ⟨g, cap, rfl, hcc, hg, hSg, hgp, hcell⟩ := h.at (by omega)
  have n0 : w.cell? ⟨g, k * 6, none⟩ = some (.int .i64 R[k].id) := hcell k 0 hk (by omega)
  have n1 : w.cell? ⟨g, k * 6 + 1, none⟩ = some (.int .i64 R[k].par) := hcell k 1 hk (by omega)
  have n2 : w.cell? ⟨g, k * 6 + 2, none⟩ = some (.string R[k].tag) := hcell k 2 hk (by omega)
  have n3 : w.cell? ⟨g, k * 6 + 3, none⟩ = some (.int .i64 R[k].key) := hcell k 3 hk (by omega)
  have n4 : w.cell? ⟨g, k * 6 + 4, none⟩ = some (.slice R[k].ao R[k].an R[k].ac) := hcell k 4 hk (by omega)
  have n5 : w.cell? ⟨g, k * 6 + 5, none⟩ = some (.string R[k].text) := hcell k 5 hk (by omega)
  have fr : ∀ r, w.frozen? ⟨g, k * 6 + r, none⟩ = false := fun r => h.row.frozenAt (k * 6 + r)
  have hA : ∀ w', RefAt S w' p R last (.slice (some ⟨g, 0, none⟩) R.length cap) → Calls Tryz.prog 49 #[.pointer (some ⟨p, 0, none⟩), .int .i64 id] w' fun e w'' => e = .returned (.int .i64 k) ∧ w'' = w' := by
    intro w' hw
    rw [← ha]
    exact at_any S p R last _ id w' hw
  have HA := hide hA
  clear hA ha
  have HN : Hid (∀ w', Calls Tryz.prog 45 #[.string nm] w' fun e w'' => e = .returned (.bool true) ∧ w'' = w') := hide fun w' => name_is nm true hnr hnmo w'
  clear hnr
  have HAt := hide h
  have HOk := hide (h.node R[k] (List.getElem_mem hk))
  clear h hcell
  generalize hnd : R[k] = nd at *
  have HND := hide hnd
  clear hnd
  go_enter Tryz.func37, Tryz.ntmps37
  go_wp2_with (first | (go_at_call_of 49 (Value.int IntKind.i64 id); refine (unhide HA _ ((unhide HR).below ((Below.refl _ _).alloc (Nat.le_refl _) _))).mono ?_; rintro e w1 ⟨rfl, rfl⟩) | (go_at_call 45; refine (unhide HN _).mono ?_; rintro e w1 ⟨rfl, rfl⟩))
  generalize hw2 : (w.alloc (.cells #[.int .i64 kd, .int .i64 id, .int .i64 pa, .int .i64 bf, .int .i64 ky, .string tg, .string nm, .string tx] 29)).alloc (.cells #[.int .i64 nd.id, .int .i64 nd.par, .string nd.tag, .int .i64 nd.key, .slice nd.ao nd.an nd.ac, .string nd.text] 91) = w2
  have hb2 : Below w.heap.size w w2 := by rw [← hw2]; exact (((Below.refl _ _).alloc (Nat.le_refl _) _).alloc (by simp) _)
  have s2 : w.heap.size + 1 < w2.heap.size := by rw [← hw2]; simp
  have q0 : w2.cell? ⟨w.heap.size, 0, none⟩ = some (.int .i64 kd) := by rw [← hw2]; simp [go_sem]
  have q6 : w2.cell? ⟨w.heap.size, 6, none⟩ = some (.string nm) := by rw [← hw2]; simp [go_sem]
  have q7 : w2.cell? ⟨w.heap.size, 7, none⟩ = some (.string tx) := by rw [← hw2]; simp [go_sem]
  have m4 : w2.cell? ⟨w.heap.size + 1, 4, none⟩ = some (.slice nd.ao nd.an nd.ac) := by rw [← hw2]; simp [go_sem]
  have e0 := (hb2.cell (p := ⟨p, 0, none⟩) hp).trans c0
  have e4 := (hb2.cell (p := ⟨g, k * 6 + 4, none⟩) hg).trans n4
  have ef := (hb2.frozen (p := ⟨g, k * 6 + 4, none⟩) hg).trans (fr 4)
  have HB2 := hide hb2
  have HR2 := hide (HR.out.below hb2)
  have HA2 := hide (HOk.out.below hb2)
  have hs2 := hb2.size
  have hU5 : Hid (∀ w', AttrsAt w' nd.ao nd.an (nmOf nd.ats) (vlOf nd.ats) → Calls Tryz.prog 57 #[.slice nd.ao nd.an nd.ac, .string nm] w' fun e w'' => ∃ a5 c5, e = .returned (.slice a5 (unsetP nd.ats nm).length c5) ∧ AttsAt w'' w'.heap.size (.slice a5 (unsetP nd.ats nm).length c5) (unsetP nd.ats nm) ∧ Below w'.heap.size w' w'') := by
    refine hide fun w' hw => (unset_any nd.ao nd.an nd.ac nd.ats nm w' HOk.out.an (by have := HOk.out.few; omega) hw).mono ?_
    rintro e w'' ⟨q, rfl, hq, hb⟩
    obtain ⟨a5, c5, rfl⟩ := own_shape hq
    exact ⟨a5, c5, rfl, hq, hb⟩
  have hfew5 := HOk.out.few
  clear hw2 hb2 c0 c1 n0 n1 n2 n3 n4 n5 fr
  go_wp2_with (first | (go_at_call 57; refine (unhide hU5 _ (unhide HA2).at').mono ?_; rintro e w5 ⟨a5, c5, rfl, ho5, hb5⟩; have HO5 := hide ho5; have HB5 := hide hb5; have s5 := hb5.size; have k0 := (hb5.cell (p := ⟨w.heap.size, 0, none⟩) (by simp; omega)).trans q0; have k6 := (hb5.cell (p := ⟨w.heap.size, 6, none⟩) (by simp; omega)).trans q6; have k7 := (hb5.cell (p := ⟨w.heap.size, 7, none⟩) (by simp; omega)).trans q7; have k4 := (hb5.cell (p := ⟨w.heap.size + 1, 4, none⟩) (by simp; omega)).trans m4; have f0 := (hb5.cell (p := ⟨p, 0, none⟩) (by simp; omega)).trans e0; have f4 := (hb5.cell (p := ⟨g, k * 6 + 4, none⟩) (by simp; omega)).trans e4; have ff := (hb5.frozen (p := ⟨g, k * 6 + 4, none⟩) (by simp; omega)).trans ef; clear ho5 hb5 q0 q6 q7 m4 e0 e4 ef))
  go_ret
  exact ⟨rfl, HB2.out.trans (HB5.out.mono hs2)⟩
set_option maxRecDepth 100000 in
set_option maxHeartbeats 4000000 in
theorem do_uns_text (S : Nat → Prop) (p : Nat) (R : List RN) (last : Int) (v : Value) (kd id pa bf ky : Int) (tg nm tx : ByteArray) (w : World) (h : RefAt S w p R last v) (hk1 : (kd == 1) = false) (k : Nat) (hk : k < R.length) (ha : atP R id = (k : Int)) (hky : (ky != 0) = false) (htg : tg.toList.isEmpty = true) (hpa : (pa != 0) = false) (hbf : (bf != 0) = false) (hk2 : (kd == 2) = false) (hk3 : (kd == 3) = false) (hk6 : (kd == 6) = false) (hk2' : (kd != 2) = true) (hnmo : nm.size ≤ maxLen) (hnr : nameB nm = true) (htag : R[k].tag.toList.isEmpty = false) (htx : (tx.size : Int) ≤ 20) (hk4 : (kd != 4) = true) (hk5' : (kd != 5) = false) (hk5 : (kd == 5) = true) (hhas : (unsetP R[k].ats nm).length < R[k].an) (htx0 : tx.toList.isEmpty = false) :
    Calls Tryz.prog 37 #[.pointer (some ⟨p, 0, none⟩), .agg #[.int .i64 kd, .int .i64 id, .int .i64 pa, .int .i64 bf, .int .i64 ky, .string tg, .string nm, .string tx]] w fun e w' => e = .returned (.bool false) ∧ Below w.heap.size w w' := by
  have hfew := h.few
  have hp := h.lt
  have c0 := h.c0
  have c1 := h.c1
  have HR := hide h
  obtain ⟨g, cap, rfl, hcc, hg, hSg, hgp, hcell⟩ := h.at (by omega)
  have n0 : w.cell? ⟨g, k * 6, none⟩ = some (.int .i64 R[k].id) := hcell k 0 hk (by omega)
  have n1 : w.cell? ⟨g, k * 6 + 1, none⟩ = some (.int .i64 R[k].par) := hcell k 1 hk (by omega)
  have n2 : w.cell? ⟨g, k * 6 + 2, none⟩ = some (.string R[k].tag) := hcell k 2 hk (by omega)
  have n3 : w.cell? ⟨g, k * 6 + 3, none⟩ = some (.int .i64 R[k].key) := hcell k 3 hk (by omega)
  have n4 : w.cell? ⟨g, k * 6 + 4, none⟩ = some (.slice R[k].ao R[k].an R[k].ac) := hcell k 4 hk (by omega)
  have n5 : w.cell? ⟨g, k * 6 + 5, none⟩ = some (.string R[k].text) := hcell k 5 hk (by omega)
  have fr : ∀ r, w.frozen? ⟨g, k * 6 + r, none⟩ = false := fun r => h.row.frozenAt (k * 6 + r)
  have hA : ∀ w', RefAt S w' p R last (.slice (some ⟨g, 0, none⟩) R.length cap) → Calls Tryz.prog 49 #[.pointer (some ⟨p, 0, none⟩), .int .i64 id] w' fun e w'' => e = .returned (.int .i64 k) ∧ w'' = w' := by
    intro w' hw
    rw [← ha]
    exact at_any S p R last _ id w' hw
  have HA := hide hA
  clear hA ha
  have HN : Hid (∀ w', Calls Tryz.prog 45 #[.string nm] w' fun e w'' => e = .returned (.bool true) ∧ w'' = w') := hide fun w' => name_is nm true hnr hnmo w'
  clear hnr
  have HAt := hide h
  have HOk := hide (h.node R[k] (List.getElem_mem hk))
  clear h hcell
  generalize hnd : R[k] = nd at *
  have HND := hide hnd
  clear hnd
  go_enter Tryz.func37, Tryz.ntmps37
  go_wp2_with (first | (go_at_call_of 49 (Value.int IntKind.i64 id); refine (unhide HA _ ((unhide HR).below ((Below.refl _ _).alloc (Nat.le_refl _) _))).mono ?_; rintro e w1 ⟨rfl, rfl⟩) | (go_at_call 45; refine (unhide HN _).mono ?_; rintro e w1 ⟨rfl, rfl⟩))
  generalize hw2 : (w.alloc (.cells #[.int .i64 kd, .int .i64 id, .int .i64 pa, .int .i64 bf, .int .i64 ky, .string tg, .string nm, .string tx] 29)).alloc (.cells #[.int .i64 nd.id, .int .i64 nd.par, .string nd.tag, .int .i64 nd.key, .slice nd.ao nd.an nd.ac, .string nd.text] 91) = w2
  have hb2 : Below w.heap.size w w2 := by rw [← hw2]; exact (((Below.refl _ _).alloc (Nat.le_refl _) _).alloc (by simp) _)
  have s2 : w.heap.size + 1 < w2.heap.size := by rw [← hw2]; simp
  have q0 : w2.cell? ⟨w.heap.size, 0, none⟩ = some (.int .i64 kd) := by rw [← hw2]; simp [go_sem]
  have q6 : w2.cell? ⟨w.heap.size, 6, none⟩ = some (.string nm) := by rw [← hw2]; simp [go_sem]
  have q7 : w2.cell? ⟨w.heap.size, 7, none⟩ = some (.string tx) := by rw [← hw2]; simp [go_sem]
  have m4 : w2.cell? ⟨w.heap.size + 1, 4, none⟩ = some (.slice nd.ao nd.an nd.ac) := by rw [← hw2]; simp [go_sem]
  have e0 := (hb2.cell (p := ⟨p, 0, none⟩) hp).trans c0
  have e4 := (hb2.cell (p := ⟨g, k * 6 + 4, none⟩) hg).trans n4
  have ef := (hb2.frozen (p := ⟨g, k * 6 + 4, none⟩) hg).trans (fr 4)
  have HB2 := hide hb2
  have HR2 := hide (HR.out.below hb2)
  have HA2 := hide (HOk.out.below hb2)
  have hs2 := hb2.size
  have hU5 : Hid (∀ w', AttrsAt w' nd.ao nd.an (nmOf nd.ats) (vlOf nd.ats) → Calls Tryz.prog 57 #[.slice nd.ao nd.an nd.ac, .string nm] w' fun e w'' => ∃ a5 c5, e = .returned (.slice a5 (unsetP nd.ats nm).length c5) ∧ AttsAt w'' w'.heap.size (.slice a5 (unsetP nd.ats nm).length c5) (unsetP nd.ats nm) ∧ Below w'.heap.size w' w'') := by
    refine hide fun w' hw => (unset_any nd.ao nd.an nd.ac nd.ats nm w' HOk.out.an (by have := HOk.out.few; omega) hw).mono ?_
    rintro e w'' ⟨q, rfl, hq, hb⟩
    obtain ⟨a5, c5, rfl⟩ := own_shape hq
    exact ⟨a5, c5, rfl, hq, hb⟩
  have hfew5 := HOk.out.few
  clear hw2 hb2 c0 c1 n0 n1 n2 n3 n4 n5 fr
  go_wp2_with (first | (go_at_call 57; refine (unhide hU5 _ (unhide HA2).at').mono ?_; rintro e w5 ⟨a5, c5, rfl, ho5, hb5⟩; have HO5 := hide ho5; have HB5 := hide hb5; have s5 := hb5.size; have k0 := (hb5.cell (p := ⟨w.heap.size, 0, none⟩) (by simp; omega)).trans q0; have k6 := (hb5.cell (p := ⟨w.heap.size, 6, none⟩) (by simp; omega)).trans q6; have k7 := (hb5.cell (p := ⟨w.heap.size, 7, none⟩) (by simp; omega)).trans q7; have k4 := (hb5.cell (p := ⟨w.heap.size + 1, 4, none⟩) (by simp; omega)).trans m4; have f0 := (hb5.cell (p := ⟨p, 0, none⟩) (by simp; omega)).trans e0; have f4 := (hb5.cell (p := ⟨g, k * 6 + 4, none⟩) (by simp; omega)).trans e4; have ff := (hb5.frozen (p := ⟨g, k * 6 + 4, none⟩) (by simp; omega)).trans ef; clear ho5 hb5 q0 q6 q7 m4 e0 e4 ef))
  go_ret
  exact ⟨rfl, HB2.out.trans (HB5.out.mono hs2)⟩
set_option maxRecDepth 100000 in
set_option maxHeartbeats 4000000 in
theorem do_set_full (S : Nat → Prop) (p : Nat) (R : List RN) (last : Int) (v : Value) (kd id pa bf ky : Int) (tg nm tx : ByteArray) (w : World) (h : RefAt S w p R last v) (hk1 : (kd == 1) = false) (k : Nat) (hk : k < R.length) (ha : atP R id = (k : Int)) (hky : (ky != 0) = false) (htg : tg.toList.isEmpty = true) (hpa : (pa != 0) = false) (hbf : (bf != 0) = false) (hk2 : (kd == 2) = false) (hk3 : (kd == 3) = false) (hk6 : (kd == 6) = false) (hk2' : (kd != 2) = true) (hnmo : nm.size ≤ maxLen) (hnr : nameB nm = true) (htag : R[k].tag.toList.isEmpty = false) (htx : (tx.size : Int) ≤ 20) (hk4 : (kd != 4) = false) (hk5 : (kd == 5) = false) (hhas : R[k].an ≤ (unsetP R[k].ats nm).length) (h5 : 5 ≤ R[k].an) :
    Calls Tryz.prog 37 #[.pointer (some ⟨p, 0, none⟩), .agg #[.int .i64 kd, .int .i64 id, .int .i64 pa, .int .i64 bf, .int .i64 ky, .string tg, .string nm, .string tx]] w fun e w' => e = .returned (.bool false) ∧ Below w.heap.size w w' := by
  have hfew := h.few
  have hp := h.lt
  have c0 := h.c0
  have c1 := h.c1
  have HR := hide h
  obtain ⟨g, cap, rfl, hcc, hg, hSg, hgp, hcell⟩ := h.at (by omega)
  have n0 : w.cell? ⟨g, k * 6, none⟩ = some (.int .i64 R[k].id) := hcell k 0 hk (by omega)
  have n1 : w.cell? ⟨g, k * 6 + 1, none⟩ = some (.int .i64 R[k].par) := hcell k 1 hk (by omega)
  have n2 : w.cell? ⟨g, k * 6 + 2, none⟩ = some (.string R[k].tag) := hcell k 2 hk (by omega)
  have n3 : w.cell? ⟨g, k * 6 + 3, none⟩ = some (.int .i64 R[k].key) := hcell k 3 hk (by omega)
  have n4 : w.cell? ⟨g, k * 6 + 4, none⟩ = some (.slice R[k].ao R[k].an R[k].ac) := hcell k 4 hk (by omega)
  have n5 : w.cell? ⟨g, k * 6 + 5, none⟩ = some (.string R[k].text) := hcell k 5 hk (by omega)
  have fr : ∀ r, w.frozen? ⟨g, k * 6 + r, none⟩ = false := fun r => h.row.frozenAt (k * 6 + r)
  have hA : ∀ w', RefAt S w' p R last (.slice (some ⟨g, 0, none⟩) R.length cap) → Calls Tryz.prog 49 #[.pointer (some ⟨p, 0, none⟩), .int .i64 id] w' fun e w'' => e = .returned (.int .i64 k) ∧ w'' = w' := by
    intro w' hw
    rw [← ha]
    exact at_any S p R last _ id w' hw
  have HA := hide hA
  clear hA ha
  have HN : Hid (∀ w', Calls Tryz.prog 45 #[.string nm] w' fun e w'' => e = .returned (.bool true) ∧ w'' = w') := hide fun w' => name_is nm true hnr hnmo w'
  clear hnr
  have HAt := hide h
  have HOk := hide (h.node R[k] (List.getElem_mem hk))
  clear h hcell
  generalize hnd : R[k] = nd at *
  have HND := hide hnd
  clear hnd
  have hd : decide ((unsetP nd.ats nm).length < nd.an) = false := by simp; omega
  go_enter Tryz.func37, Tryz.ntmps37
  go_wp2_with (first | (go_at_call_of 49 (Value.int IntKind.i64 id); refine (unhide HA _ ((unhide HR).below ((Below.refl _ _).alloc (Nat.le_refl _) _))).mono ?_; rintro e w1 ⟨rfl, rfl⟩) | (go_at_call 45; refine (unhide HN _).mono ?_; rintro e w1 ⟨rfl, rfl⟩))
  generalize hw2 : (w.alloc (.cells #[.int .i64 kd, .int .i64 id, .int .i64 pa, .int .i64 bf, .int .i64 ky, .string tg, .string nm, .string tx] 29)).alloc (.cells #[.int .i64 nd.id, .int .i64 nd.par, .string nd.tag, .int .i64 nd.key, .slice nd.ao nd.an nd.ac, .string nd.text] 91) = w2
  have hb2 : Below w.heap.size w w2 := by rw [← hw2]; exact (((Below.refl _ _).alloc (Nat.le_refl _) _).alloc (by simp) _)
  have s2 : w.heap.size + 1 < w2.heap.size := by rw [← hw2]; simp
  have q0 : w2.cell? ⟨w.heap.size, 0, none⟩ = some (.int .i64 kd) := by rw [← hw2]; simp [go_sem]
  have q6 : w2.cell? ⟨w.heap.size, 6, none⟩ = some (.string nm) := by rw [← hw2]; simp [go_sem]
  have q7 : w2.cell? ⟨w.heap.size, 7, none⟩ = some (.string tx) := by rw [← hw2]; simp [go_sem]
  have m4 : w2.cell? ⟨w.heap.size + 1, 4, none⟩ = some (.slice nd.ao nd.an nd.ac) := by rw [← hw2]; simp [go_sem]
  have e0 := (hb2.cell (p := ⟨p, 0, none⟩) hp).trans c0
  have e4 := (hb2.cell (p := ⟨g, k * 6 + 4, none⟩) hg).trans n4
  have ef := (hb2.frozen (p := ⟨g, k * 6 + 4, none⟩) hg).trans (fr 4)
  have HB2 := hide hb2
  have HR2 := hide (HR.out.below hb2)
  have HA2 := hide (HOk.out.below hb2)
  have hs2 := hb2.size
  have hU5 : Hid (∀ w', AttrsAt w' nd.ao nd.an (nmOf nd.ats) (vlOf nd.ats) → Calls Tryz.prog 57 #[.slice nd.ao nd.an nd.ac, .string nm] w' fun e w'' => ∃ a5 c5, e = .returned (.slice a5 (unsetP nd.ats nm).length c5) ∧ AttsAt w'' w'.heap.size (.slice a5 (unsetP nd.ats nm).length c5) (unsetP nd.ats nm) ∧ Below w'.heap.size w' w'') := by
    refine hide fun w' hw => (unset_any nd.ao nd.an nd.ac nd.ats nm w' HOk.out.an (by have := HOk.out.few; omega) hw).mono ?_
    rintro e w'' ⟨q, rfl, hq, hb⟩
    obtain ⟨a5, c5, rfl⟩ := own_shape hq
    exact ⟨a5, c5, rfl, hq, hb⟩
  have hfew5 := HOk.out.few
  clear hw2 hb2 c0 c1 n0 n1 n2 n3 n4 n5 fr
  go_wp2_with (first | (go_at_call 57; refine (unhide hU5 _ (unhide HA2).at').mono ?_; rintro e w5 ⟨a5, c5, rfl, ho5, hb5⟩; have HO5 := hide ho5; have HB5 := hide hb5; have s5 := hb5.size; have k0 := (hb5.cell (p := ⟨w.heap.size, 0, none⟩) (by simp; omega)).trans q0; have k6 := (hb5.cell (p := ⟨w.heap.size, 6, none⟩) (by simp; omega)).trans q6; have k7 := (hb5.cell (p := ⟨w.heap.size, 7, none⟩) (by simp; omega)).trans q7; have k4 := (hb5.cell (p := ⟨w.heap.size + 1, 4, none⟩) (by simp; omega)).trans m4; have f0 := (hb5.cell (p := ⟨p, 0, none⟩) (by simp; omega)).trans e0; have f4 := (hb5.cell (p := ⟨g, k * 6 + 4, none⟩) (by simp; omega)).trans e4; have ff := (hb5.frozen (p := ⟨g, k * 6 + 4, none⟩) (by simp; omega)).trans ef; clear ho5 hb5 q0 q6 q7 m4 e0 e4 ef))
  go_ret
  exact ⟨rfl, HB2.out.trans (HB5.out.mono hs2)⟩
set_option maxRecDepth 100000 in
set_option maxHeartbeats 4000000 in
theorem do_uns_ok (S : Nat → Prop) (p : Nat) (R : List RN) (last : Int) (v : Value) (kd id pa bf ky : Int) (tg nm tx : ByteArray) (w : World) (h : RefAt S w p R last v) (hk1 : (kd == 1) = false) (k : Nat) (hk : k < R.length) (ha : atP R id = (k : Int)) (hky : (ky != 0) = false) (htg : tg.toList.isEmpty = true) (hpa : (pa != 0) = false) (hbf : (bf != 0) = false) (hk2 : (kd == 2) = false) (hk3 : (kd == 3) = false) (hk6 : (kd == 6) = false) (hk2' : (kd != 2) = true) (hnmo : nm.size ≤ maxLen) (hnr : nameB nm = true) (htag : R[k].tag.toList.isEmpty = false) (htx : (tx.size : Int) ≤ 20) (hk4 : (kd != 4) = true) (hk5' : (kd != 5) = false) (hk5 : (kd == 5) = true) (hhas : (unsetP R[k].ats nm).length < R[k].an) (htx0 : tx.toList.isEmpty = true) :
    Calls Tryz.prog 37 #[.pointer (some ⟨p, 0, none⟩), .agg #[.int .i64 kd, .int .i64 id, .int .i64 pa, .int .i64 bf, .int .i64 ky, .string tg, .string nm, .string tx]] w fun e w' => e = .returned (.bool true) ∧ Touch S w w' ∧ ∃ v' a5 c5, RefAt (andNew S w w') w' p (R.set k { R[k] with ats := unsetP R[k].ats nm, ao := a5, an := (unsetP R[k].ats nm).length, ac := c5 }) last v' := by
  have hfew := h.few
  have hp := h.lt
  have c0 := h.c0
  have c1 := h.c1
  have HR := hide h
  obtain ⟨g, cap, rfl, hcc, hg, hSg, hgp, hcell⟩ := h.at (by omega)
  have n0 : w.cell? ⟨g, k * 6, none⟩ = some (.int .i64 R[k].id) := hcell k 0 hk (by omega)
  have n1 : w.cell? ⟨g, k * 6 + 1, none⟩ = some (.int .i64 R[k].par) := hcell k 1 hk (by omega)
  have n2 : w.cell? ⟨g, k * 6 + 2, none⟩ = some (.string R[k].tag) := hcell k 2 hk (by omega)
  have n3 : w.cell? ⟨g, k * 6 + 3, none⟩ = some (.int .i64 R[k].key) := hcell k 3 hk (by omega)
  have n4 : w.cell? ⟨g, k * 6 + 4, none⟩ = some (.slice R[k].ao R[k].an R[k].ac) := hcell k 4 hk (by omega)
  have n5 : w.cell? ⟨g, k * 6 + 5, none⟩ = some (.string R[k].text) := hcell k 5 hk (by omega)
  have fr : ∀ r, w.frozen? ⟨g, k * 6 + r, none⟩ = false := fun r => h.row.frozenAt (k * 6 + r)
  have hA : ∀ w', RefAt S w' p R last (.slice (some ⟨g, 0, none⟩) R.length cap) → Calls Tryz.prog 49 #[.pointer (some ⟨p, 0, none⟩), .int .i64 id] w' fun e w'' => e = .returned (.int .i64 k) ∧ w'' = w' := by
    intro w' hw
    rw [← ha]
    exact at_any S p R last _ id w' hw
  have HA := hide hA
  clear hA ha
  have HN : Hid (∀ w', Calls Tryz.prog 45 #[.string nm] w' fun e w'' => e = .returned (.bool true) ∧ w'' = w') := hide fun w' => name_is nm true hnr hnmo w'
  clear hnr
  have HAt := hide h
  have HOk := hide (h.node R[k] (List.getElem_mem hk))
  clear h hcell
  generalize hnd : R[k] = nd at *
  have HND := hide hnd
  clear hnd
  go_enter Tryz.func37, Tryz.ntmps37
  go_wp2_with (first | (go_at_call_of 49 (Value.int IntKind.i64 id); refine (unhide HA _ ((unhide HR).below ((Below.refl _ _).alloc (Nat.le_refl _) _))).mono ?_; rintro e w1 ⟨rfl, rfl⟩) | (go_at_call 45; refine (unhide HN _).mono ?_; rintro e w1 ⟨rfl, rfl⟩))
  generalize hw2 : (w.alloc (.cells #[.int .i64 kd, .int .i64 id, .int .i64 pa, .int .i64 bf, .int .i64 ky, .string tg, .string nm, .string tx] 29)).alloc (.cells #[.int .i64 nd.id, .int .i64 nd.par, .string nd.tag, .int .i64 nd.key, .slice nd.ao nd.an nd.ac, .string nd.text] 91) = w2
  have hb2 : Below w.heap.size w w2 := by rw [← hw2]; exact (((Below.refl _ _).alloc (Nat.le_refl _) _).alloc (by simp) _)
  have s2 : w.heap.size + 1 < w2.heap.size := by rw [← hw2]; simp
  have q0 : w2.cell? ⟨w.heap.size, 0, none⟩ = some (.int .i64 kd) := by rw [← hw2]; simp [go_sem]
  have q6 : w2.cell? ⟨w.heap.size, 6, none⟩ = some (.string nm) := by rw [← hw2]; simp [go_sem]
  have q7 : w2.cell? ⟨w.heap.size, 7, none⟩ = some (.string tx) := by rw [← hw2]; simp [go_sem]
  have m4 : w2.cell? ⟨w.heap.size + 1, 4, none⟩ = some (.slice nd.ao nd.an nd.ac) := by rw [← hw2]; simp [go_sem]
  have e0 := (hb2.cell (p := ⟨p, 0, none⟩) hp).trans c0
  have e4 := (hb2.cell (p := ⟨g, k * 6 + 4, none⟩) hg).trans n4
  have ef := (hb2.frozen (p := ⟨g, k * 6 + 4, none⟩) hg).trans (fr 4)
  have HB2 := hide hb2
  have HR2 := hide (HR.out.below hb2)
  have HA2 := hide (HOk.out.below hb2)
  have hs2 := hb2.size
  have hU5 : Hid (∀ w', AttrsAt w' nd.ao nd.an (nmOf nd.ats) (vlOf nd.ats) → Calls Tryz.prog 57 #[.slice nd.ao nd.an nd.ac, .string nm] w' fun e w'' => ∃ a5 c5, e = .returned (.slice a5 (unsetP nd.ats nm).length c5) ∧ AttsAt w'' w'.heap.size (.slice a5 (unsetP nd.ats nm).length c5) (unsetP nd.ats nm) ∧ Below w'.heap.size w' w'') := by
    refine hide fun w' hw => (unset_any nd.ao nd.an nd.ac nd.ats nm w' HOk.out.an (by have := HOk.out.few; omega) hw).mono ?_
    rintro e w'' ⟨q, rfl, hq, hb⟩
    obtain ⟨a5, c5, rfl⟩ := own_shape hq
    exact ⟨a5, c5, rfl, hq, hb⟩
  have hfew5 := HOk.out.few
  clear hw2 hb2 c0 c1 n0 n1 n2 n3 n4 n5 fr
  go_wp2_with (first | (go_at_call 57; refine (unhide hU5 _ (unhide HA2).at').mono ?_; rintro e w5 ⟨a5, c5, rfl, ho5, hb5⟩; have HO5 := hide ho5; have HB5 := hide hb5; have s5 := hb5.size; have k0 := (hb5.cell (p := ⟨w.heap.size, 0, none⟩) (by simp; omega)).trans q0; have k6 := (hb5.cell (p := ⟨w.heap.size, 6, none⟩) (by simp; omega)).trans q6; have k7 := (hb5.cell (p := ⟨w.heap.size, 7, none⟩) (by simp; omega)).trans q7; have k4 := (hb5.cell (p := ⟨w.heap.size + 1, 4, none⟩) (by simp; omega)).trans m4; have f0 := (hb5.cell (p := ⟨p, 0, none⟩) (by simp; omega)).trans e0; have f4 := (hb5.cell (p := ⟨g, k * 6 + 4, none⟩) (by simp; omega)).trans e4; have ff := (hb5.frozen (p := ⟨g, k * 6 + 4, none⟩) (by simp; omega)).trans ef; clear ho5 hb5 q0 q6 q7 m4 e0 e4 ef))
  go_ret
  have hRk : R[k] = nd := HND.out
  have hbx := HB2.out.trans (HB5.out.mono hs2)
  have hz := (HR2.out.below HB5.out).wrote (S' := andNew S w (w5.setCell ⟨g, k * 6 + 4, none⟩ (.slice a5 (unsetP nd.ats nm).length c5))) (fun b _ h => .inl h) k 4 (.slice a5 (unsetP nd.ats nm).length c5) { R[k] with ats := unsetP nd.ats nm, ao := a5, an := (unsetP nd.ats nm).length, ac := c5 } hk (by omega) rfl (by
    have ok := (HR2.out.below HB5.out).node R[k] (List.getElem_mem hk)
    exact attrs_new ok (unsetP_sub (by rw [← hRk]; exact ok.few) HA2.out.an) (unsetP_sizes (attrs_sizes HA2.out.an HA2.out.at')) HO5.out hs2 (by omega) (by omega) (by rw [size_setCell']))
  rw [hRk] at hz
  refine ⟨rfl, ⟨hbx.os, hbx.tape, hbx.output, by rw [size_setCell']; exact hbx.size, fun b hb hn => ?_⟩, _, a5, c5, hz⟩
  exact (Below.heap_setCell w5 ⟨g, k * 6 + 4, none⟩ _ b (fun e => hn (by rw [e]; exact hSg))).trans (hbx.block b hb)
end Go.Proofs.YtobgcaemnpkbmaaGreat
