/- DoU -/
import Derived.Test.YtobgcaemnpkbmaaGreatD24
namespace Go.Proofs.YtobgcaemnpkbmaaGreat
open Go.RowKit
attribute [local go_sem ↓] Go.wp_at_zero Go.wp_at_succ
theorem setTo_sizes {l : List (ByteArray × ByteArray)} {nm vl : ByteArray} (h : ∀ x, x ∈ l → x.1.size ≤ maxLen ∧ x.2.size ≤ maxLen) (hn : nm.size ≤ maxLen) (hv : vl.size ≤ maxLen) : ∀ k, k ≤ l.length → ∀ x, x ∈ (setTo l nm vl k).1 → x.1.size ≤ maxLen ∧ x.2.size ≤ maxLen := by
  intro k
  induction k with
  | zero => intro _ x hx; simp [setTo] at hx
  | succ k ih =>
    intro hk x hx
    have ih := ih (by omega)
    have ho : ∀ y, y ∈ (if (setTo l nm vl k).2 = false ∧ Op.bytesLess (attAt l k).1.toList nm.toList = false then (setTo l nm vl k).1 ++ [(nm, vl)] else (setTo l nm vl k).1) → y.1.size ≤ maxLen ∧ y.2.size ≤ maxLen := by
      intro y hy
      split at hy
      · rcases List.mem_append.1 hy with hy | hy
        · exact ih y hy
        · have := List.mem_singleton.1 hy
          subst this
          exact ⟨hn, hv⟩
      · exact ih y hy
    rw [setTo] at hx
    simp only [] at hx
    split at hx
    · exact ho x hx
    · rcases List.mem_append.1 hx with hx | hx
      · exact ho x hx
      · have := List.mem_singleton.1 hx
        subst this
        rw [attAt_lt (by omega)]
        exact h _ (List.getElem_mem _)
theorem setP_sizes {l : List (ByteArray × ByteArray)} {nm vl : ByteArray} (h : ∀ x, x ∈ l → x.1.size ≤ maxLen ∧ x.2.size ≤ maxLen) (hn : nm.size ≤ maxLen) (hv : vl.size ≤ maxLen) : ∀ x, x ∈ setP l nm vl → x.1.size ≤ maxLen ∧ x.2.size ≤ maxLen := by
  intro x hx
  unfold setP at hx
  split at hx
  · exact setTo_sizes h hn hv _ (Nat.le_refl _) x hx
  · rcases List.mem_append.1 hx with hx | hx
    · exact setTo_sizes h hn hv _ (Nat.le_refl _) x hx
    · have := List.mem_singleton.1 hx
      subst this
      exact ⟨hn, hv⟩
set_option maxRecDepth 100000 in
set_option maxHeartbeats 4000000 in
theorem do_set_ok1 (S : Nat → Prop) (p : Nat) (R : List RN) (last : Int) (v : Value) (kd id pa bf ky : Int) (tg nm tx : ByteArray) (w : World) (h : RefAt S w p R last v) (hk1 : (kd == 1) = false) (k : Nat) (hk : k < R.length) (ha : atP R id = (k : Int)) (hky : (ky != 0) = false) (htg : tg.toList.isEmpty = true) (hpa : (pa != 0) = false) (hbf : (bf != 0) = false) (hk2 : (kd == 2) = false) (hk3 : (kd == 3) = false) (hk6 : (kd == 6) = false) (hk2' : (kd != 2) = true) (hnmo : nm.size ≤ maxLen) (hnr : nameB nm = true) (htag : R[k].tag.toList.isEmpty = false) (htx : (tx.size : Int) ≤ 20) (hk4 : (kd != 4) = false) (hk5 : (kd == 5) = false) (hhas : (unsetP R[k].ats nm).length < R[k].an) (hlen : (setP R[k].ats nm tx).length ≤ 5) :
    Calls Tryz.prog 37 #[.pointer (some ⟨p, 0, none⟩), .agg #[.int .i64 kd, .int .i64 id, .int .i64 pa, .int .i64 bf, .int .i64 ky, .string tg, .string nm, .string tx]] w fun e w' => e = .returned (.bool true) ∧ Touch S w w' ∧ ∃ v' a5 c5, RefAt (andNew S w w') w' p (R.set k { R[k] with ats := setP R[k].ats nm tx, ao := a5, an := (setP R[k].ats nm tx).length, ac := c5 }) last v' := by
  have hfew := h.few
  have hp := h.lt
  have c0 := h.c0
  have c1 := h.c1
  have HR := hide h
  obtain ⟨g, cap, rfl, hcc, hg, hSg, hgp, hcell⟩ := h.at (by omega)
  have n0 : w.cell? ⟨g, k * 6, none⟩ = some (.int .i64 R[k].id) := hcell k 0 hk (by omega)
  have n1 : w.cell? ⟨g, k * 6 + 1, none⟩ = some (.int .i64 R[k].par) := hcell k 1 hk (by omega)
  have n2 : w.cell? ⟨g, k * 6 + 2, none⟩ = some (.string R[k].tag) := hcell k 2 hk (by omega)
  have n3 : w.cell? ⟨g, k * 6 + 3, none⟩ = some (.int .i64 R[k].key) := hcell k 3 hk (by omega)
  have n4 : w.cell? ⟨g, k * 6 + 4, none⟩ = some (.slice R[k].ao R[k].an R[k].ac) := hcell k 4 hk (by omega)
  have n5 : w.cell? ⟨g, k * 6 + 5, none⟩ = some (.string R[k].text) := hcell k 5 hk (by omega)
  have fr : ∀ r, w.frozen? ⟨g, k * 6 + r, none⟩ = false := fun r => h.row.frozenAt (k * 6 + r)
  have hA : ∀ w', RefAt S w' p R last (.slice (some ⟨g, 0, none⟩) R.length cap) → Calls Tryz.prog 49 #[.pointer (some ⟨p, 0, none⟩), .int .i64 id] w' fun e w'' => e = .returned (.int .i64 k) ∧ w'' = w' := by
    intro w' hw
    rw [← ha]
    exact at_any S p R last _ id w' hw
  have HA := hide hA
  clear hA ha
  have HN : Hid (∀ w', Calls Tryz.prog 45 #[.string nm] w' fun e w'' => e = .returned (.bool true) ∧ w'' = w') := hide fun w' => name_is nm true hnr hnmo w'
  clear hnr
  have HAt := hide h
  have HOk := hide (h.node R[k] (List.getElem_mem hk))
  clear h hcell
  generalize hnd : R[k] = nd at *
  have HND := hide hnd
  clear hnd
  have hd : decide ((unsetP nd.ats nm).length < nd.an) = true := by simp; omega
  go_enter Tryz.func37, Tryz.ntmps37
  go_wp2_with (first | (go_at_call_of 49 (Value.int IntKind.i64 id); refine (unhide HA _ ((unhide HR).below ((Below.refl _ _).alloc (Nat.le_refl _) _))).mono ?_; rintro e w1 ⟨rfl, rfl⟩) | (go_at_call 45; refine (unhide HN _).mono ?_; rintro e w1 ⟨rfl, rfl⟩))
  generalize hw2 : (w.alloc (.cells #[.int .i64 kd, .int .i64 id, .int .i64 pa, .int .i64 bf, .int .i64 ky, .string tg, .string nm, .string tx] 29)).alloc (.cells #[.int .i64 nd.id, .int .i64 nd.par, .string nd.tag, .int .i64 nd.key, .slice nd.ao nd.an nd.ac, .string nd.text] 91) = w2
  have hb2 : Below w.heap.size w w2 := by rw [← hw2]; exact (((Below.refl _ _).alloc (Nat.le_refl _) _).alloc (by simp) _)
  have s2 : w.heap.size + 1 < w2.heap.size := by rw [← hw2]; simp
  have q0 : w2.cell? ⟨w.heap.size, 0, none⟩ = some (.int .i64 kd) := by rw [← hw2]; simp [go_sem]
  have q6 : w2.cell? ⟨w.heap.size, 6, none⟩ = some (.string nm) := by rw [← hw2]; simp [go_sem]
  have q7 : w2.cell? ⟨w.heap.size, 7, none⟩ = some (.string tx) := by rw [← hw2]; simp [go_sem]
  have m4 : w2.cell? ⟨w.heap.size + 1, 4, none⟩ = some (.slice nd.ao nd.an nd.ac) := by rw [← hw2]; simp [go_sem]
  have e0 := (hb2.cell (p := ⟨p, 0, none⟩) hp).trans c0
  have e4 := (hb2.cell (p := ⟨g, k * 6 + 4, none⟩) hg).trans n4
  have ef := (hb2.frozen (p := ⟨g, k * 6 + 4, none⟩) hg).trans (fr 4)
  have HB2 := hide hb2
  have HR2 := hide (HR.out.below hb2)
  have HA2 := hide (HOk.out.below hb2)
  have hs2 := hb2.size
  have hU5 : Hid (∀ w', AttrsAt w' nd.ao nd.an (nmOf nd.ats) (vlOf nd.ats) → Calls Tryz.prog 57 #[.slice nd.ao nd.an nd.ac, .string nm] w' fun e w'' => ∃ a5 c5, e = .returned (.slice a5 (unsetP nd.ats nm).length c5) ∧ AttsAt w'' w'.heap.size (.slice a5 (unsetP nd.ats nm).length c5) (unsetP nd.ats nm) ∧ Below w'.heap.size w' w'') := by
    refine hide fun w' hw => (unset_any nd.ao nd.an nd.ac nd.ats nm w' HOk.out.an (by have := HOk.out.few; omega) hw).mono ?_
    rintro e w'' ⟨q, rfl, hq, hb⟩
    obtain ⟨a5, c5, rfl⟩ := own_shape hq
    exact ⟨a5, c5, rfl, hq, hb⟩
  have hfew5 := HOk.out.few
  clear hw2 hb2 c0 c1 n0 n1 n2 n3 n4 n5 fr
  go_wp2_with (first | (go_at_call 57; refine (unhide hU5 _ (unhide HA2).at').mono ?_; rintro e w5 ⟨a5, c5, rfl, ho5, hb5⟩; have HO5 := hide ho5; have HB5 := hide hb5; have s5 := hb5.size; have k0 := (hb5.cell (p := ⟨w.heap.size, 0, none⟩) (by simp; omega)).trans q0; have k6 := (hb5.cell (p := ⟨w.heap.size, 6, none⟩) (by simp; omega)).trans q6; have k7 := (hb5.cell (p := ⟨w.heap.size, 7, none⟩) (by simp; omega)).trans q7; have k4 := (hb5.cell (p := ⟨w.heap.size + 1, 4, none⟩) (by simp; omega)).trans m4; have f0 := (hb5.cell (p := ⟨p, 0, none⟩) (by simp; omega)).trans e0; have f4 := (hb5.cell (p := ⟨g, k * 6 + 4, none⟩) (by simp; omega)).trans e4; have ff := (hb5.frozen (p := ⟨g, k * 6 + 4, none⟩) (by simp; omega)).trans ef; clear ho5 hb5 q0 q6 q7 m4 e0 e4 ef))
  have HR5 := hide (HR2.out.below HB5.out)
  have HA5 := hide ((HA2.out.below HB5.out).at')
  have hS6 : Hid (∀ w', AttrsAt w' nd.ao nd.an (nmOf nd.ats) (vlOf nd.ats) → Calls Tryz.prog 58 #[.slice nd.ao nd.an nd.ac, .string nm, .string tx] w' fun e w'' => ∃ a6 c6, e = .returned (.slice a6 (setP nd.ats nm tx).length c6) ∧ AttsAt w'' w'.heap.size (.slice a6 (setP nd.ats nm tx).length c6) (setP nd.ats nm tx) ∧ Below w'.heap.size w' w'') := by
    refine hide fun w' hw => (set_any nd.ao nd.an nd.ac nd.ats nm tx w' HOk.out.an (by have := HOk.out.few; omega) hw).mono ?_
    rintro e w'' ⟨q, rfl, hq, hb⟩
    obtain ⟨a5, c5, rfl⟩ := own_shape hq
    exact ⟨a5, c5, rfl, hq, hb⟩
  have i1 : (0 : Int) ≤ (k : Int) := by omega
  have i2 : (k : Int) < (R.length : Int) := by omega
  have lw : w.heap.size + 1 < w5.heap.size := by omega
  have lp : p < w5.heap.size := by omega
  have lg : g < w5.heap.size := by omega
  have gp' : p ≠ g := fun e => hgp e.symm
  have gb' : w.heap.size ≠ g := by omega
  have gb1 : w.heap.size + 1 ≠ g := by omega
  have gb2 : g ≠ w.heap.size := by omega
  have gb3 : g ≠ w.heap.size + 1 := by omega
  clear k0
  go_region_held3 (fun w' => w'.frozen? ⟨g, k * 6 + 4, none⟩ = false ∧ w'.cell? ⟨p, 0, none⟩ = some (.slice (some ⟨g, 0, none⟩) R.length cap) ∧ w'.cell? ⟨w.heap.size, 6, none⟩ = some (.string nm) ∧ w'.cell? ⟨w.heap.size, 7, none⟩ = some (.string tx) ∧ w'.cell? ⟨w.heap.size + 1, 4, none⟩ = some (.slice nd.ao nd.an nd.ac))
    (first
      | go_keep
      | (go_split_ands
         refine ⟨?_, ?_, ?_, ?_, ?_⟩
         · (rw [hb6.frozen (by simp; omega)]; assumption)
         · (rw [hb6.cell (by simp; omega)]; assumption)
         · (rw [hb6.cell (by simp; omega)]; assumption)
         · (rw [hb6.cell (by simp; omega)]; assumption)
         · (rw [hb6.cell (by simp; omega)]; assumption))
      | (go_split_ands
         refine ⟨?_, ?_, ?_, ?_, ?_⟩
         · go_keep
         · go_keep
         · (rw [World.cell?_of_block (Below.heap_setCell _ _ _ _ gb')]; assumption)
         · (rw [World.cell?_of_block (Below.heap_setCell _ _ _ _ gb')]; assumption)
         · (rw [World.cell?_of_block (Below.heap_setCell _ _ _ _ gb1)]; assumption)))
    ((go_at_call 58; refine (unhide hS6 _ ((unhide HA5).below (Below.refl _ _).drew)).mono ?_; rintro e w6 ⟨a6, c6, rfl, ho6, hb6⟩; have f6 := (hb6.cell (p := ⟨g, k * 6 + 4, none⟩) (by simp; omega)).trans f4))
  go_wp2_with fail
  go_ret
  have hRk : R[k] = nd := HND.out
  have hbx := HB2.out.trans (HB5.out.mono hs2)
  have hby := hbx.trans ((Below.refl w5.heap.size w5).drew.trans hb6 |>.mono (by omega))
  have hz := (HR5.out.below ((Below.refl _ _).drew.trans hb6)).wrote (S' := andNew S w (w6.setCell ⟨g, k * 6 + 4, none⟩ (.slice a6 (setP nd.ats nm tx).length c6))) (fun b _ h => .inl h) k 4 (.slice a6 (setP nd.ats nm tx).length c6) { R[k] with ats := setP nd.ats nm tx, ao := a6, an := (setP nd.ats nm tx).length, ac := c6 } hk (by omega) rfl (by
    have ok := (HR5.out.below ((Below.refl _ _).drew.trans hb6)).node R[k] (List.getElem_mem hk)
    exact attrs_new (w2 := w5) ok hlen (setP_sizes (attrs_sizes HA2.out.an HA2.out.at') hnmo (by unfold maxLen; omega)) ho6 hbx.size lp lg (by rw [size_setCell']))
  rw [hRk] at hz
  refine ⟨rfl, ⟨hby.os, hby.tape, hby.output, by rw [size_setCell']; exact hby.size, fun b hb hn => ?_⟩, _, a6, c6, hz⟩
  exact (Below.heap_setCell w6 ⟨g, k * 6 + 4, none⟩ _ b (fun e => hn (by rw [e]; exact hSg))).trans (hby.block b hb)
set_option maxRecDepth 100000 in
set_option maxHeartbeats 4000000 in
theorem do_set_ok0 (S : Nat → Prop) (p : Nat) (R : List RN) (last : Int) (v : Value) (kd id pa bf ky : Int) (tg nm tx : ByteArray) (w : World) (h : RefAt S w p R last v) (hk1 : (kd == 1) = false) (k : Nat) (hk : k < R.length) (ha : atP R id = (k : Int)) (hky : (ky != 0) = false) (htg : tg.toList.isEmpty = true) (hpa : (pa != 0) = false) (hbf : (bf != 0) = false) (hk2 : (kd == 2) = false) (hk3 : (kd == 3) = false) (hk6 : (kd == 6) = false) (hk2' : (kd != 2) = true) (hnmo : nm.size ≤ maxLen) (hnr : nameB nm = true) (htag : R[k].tag.toList.isEmpty = false) (htx : (tx.size : Int) ≤ 20) (hk4 : (kd != 4) = false) (hk5 : (kd == 5) = false) (hhas : R[k].an ≤ (unsetP R[k].ats nm).length) (h5 : R[k].an < 5) (hlen : (setP R[k].ats nm tx).length ≤ 5) :
    Calls Tryz.prog 37 #[.pointer (some ⟨p, 0, none⟩), .agg #[.int .i64 kd, .int .i64 id, .int .i64 pa, .int .i64 bf, .int .i64 ky, .string tg, .string nm, .string tx]] w fun e w' => e = .returned (.bool true) ∧ Touch S w w' ∧ ∃ v' a5 c5, RefAt (andNew S w w') w' p (R.set k { R[k] with ats := setP R[k].ats nm tx, ao := a5, an := (setP R[k].ats nm tx).length, ac := c5 }) last v' := by
  have hfew := h.few
  have hp := h.lt
  have c0 := h.c0
  have c1 := h.c1
  have HR := hide h
  obtain ⟨g, cap, rfl, hcc, hg, hSg, hgp, hcell⟩ := h.at (by omega)
  have n0 : w.cell? ⟨g, k * 6, none⟩ = some (.int .i64 R[k].id) := hcell k 0 hk (by omega)
  have n1 : w.cell? ⟨g, k * 6 + 1, none⟩ = some (.int .i64 R[k].par) := hcell k 1 hk (by omega)
  have n2 : w.cell? ⟨g, k * 6 + 2, none⟩ = some (.string R[k].tag) := hcell k 2 hk (by omega)
  have n3 : w.cell? ⟨g, k * 6 + 3, none⟩ = some (.int .i64 R[k].key) := hcell k 3 hk (by omega)
  have n4 : w.cell? ⟨g, k * 6 + 4, none⟩ = some (.slice R[k].ao R[k].an R[k].ac) := hcell k 4 hk (by omega)
  have n5 : w.cell? ⟨g, k * 6 + 5, none⟩ = some (.string R[k].text) := hcell k 5 hk (by omega)
  have fr : ∀ r, w.frozen? ⟨g, k * 6 + r, none⟩ = false := fun r => h.row.frozenAt (k * 6 + r)
  have hA : ∀ w', RefAt S w' p R last (.slice (some ⟨g, 0, none⟩) R.length cap) → Calls Tryz.prog 49 #[.pointer (some ⟨p, 0, none⟩), .int .i64 id] w' fun e w'' => e = .returned (.int .i64 k) ∧ w'' = w' := by
    intro w' hw
    rw [← ha]
    exact at_any S p R last _ id w' hw
  have HA := hide hA
  clear hA ha
  have HN : Hid (∀ w', Calls Tryz.prog 45 #[.string nm] w' fun e w'' => e = .returned (.bool true) ∧ w'' = w') := hide fun w' => name_is nm true hnr hnmo w'
  clear hnr
  have HAt := hide h
  have HOk := hide (h.node R[k] (List.getElem_mem hk))
  clear h hcell
  generalize hnd : R[k] = nd at *
  have HND := hide hnd
  clear hnd
  have hd : decide ((unsetP nd.ats nm).length < nd.an) = false := by simp; omega
  go_enter Tryz.func37, Tryz.ntmps37
  go_wp2_with (first | (go_at_call_of 49 (Value.int IntKind.i64 id); refine (unhide HA _ ((unhide HR).below ((Below.refl _ _).alloc (Nat.le_refl _) _))).mono ?_; rintro e w1 ⟨rfl, rfl⟩) | (go_at_call 45; refine (unhide HN _).mono ?_; rintro e w1 ⟨rfl, rfl⟩))
  generalize hw2 : (w.alloc (.cells #[.int .i64 kd, .int .i64 id, .int .i64 pa, .int .i64 bf, .int .i64 ky, .string tg, .string nm, .string tx] 29)).alloc (.cells #[.int .i64 nd.id, .int .i64 nd.par, .string nd.tag, .int .i64 nd.key, .slice nd.ao nd.an nd.ac, .string nd.text] 91) = w2
  have hb2 : Below w.heap.size w w2 := by rw [← hw2]; exact (((Below.refl _ _).alloc (Nat.le_refl _) _).alloc (by simp) _)
  have s2 : w.heap.size + 1 < w2.heap.size := by rw [← hw2]; simp
  have q0 : w2.cell? ⟨w.heap.size, 0, none⟩ = some (.int .i64 kd) := by rw [← hw2]; simp [go_sem]
  have q6 : w2.cell? ⟨w.heap.size, 6, none⟩ = some (.string nm) := by rw [← hw2]; simp [go_sem]
  have q7 : w2.cell? ⟨w.heap.size, 7, none⟩ = some (.string tx) := by rw [← hw2]; simp [go_sem]
  have m4 : w2.cell? ⟨w.heap.size + 1, 4, none⟩ = some (.slice nd.ao nd.an nd.ac) := by rw [← hw2]; simp [go_sem]
  have e0 := (hb2.cell (p := ⟨p, 0, none⟩) hp).trans c0
  have e4 := (hb2.cell (p := ⟨g, k * 6 + 4, none⟩) hg).trans n4
  have ef := (hb2.frozen (p := ⟨g, k * 6 + 4, none⟩) hg).trans (fr 4)
  have HB2 := hide hb2
  have HR2 := hide (HR.out.below hb2)
  have HA2 := hide (HOk.out.below hb2)
  have hs2 := hb2.size
  have hU5 : Hid (∀ w', AttrsAt w' nd.ao nd.an (nmOf nd.ats) (vlOf nd.ats) → Calls Tryz.prog 57 #[.slice nd.ao nd.an nd.ac, .string nm] w' fun e w'' => ∃ a5 c5, e = .returned (.slice a5 (unsetP nd.ats nm).length c5) ∧ AttsAt w'' w'.heap.size (.slice a5 (unsetP nd.ats nm).length c5) (unsetP nd.ats nm) ∧ Below w'.heap.size w' w'') := by
    refine hide fun w' hw => (unset_any nd.ao nd.an nd.ac nd.ats nm w' HOk.out.an (by have := HOk.out.few; omega) hw).mono ?_
    rintro e w'' ⟨q, rfl, hq, hb⟩
    obtain ⟨a5, c5, rfl⟩ := own_shape hq
    exact ⟨a5, c5, rfl, hq, hb⟩
  have hfew5 := HOk.out.few
  clear hw2 hb2 c0 c1 n0 n1 n2 n3 n4 n5 fr
  go_wp2_with (first | (go_at_call 57; refine (unhide hU5 _ (unhide HA2).at').mono ?_; rintro e w5 ⟨a5, c5, rfl, ho5, hb5⟩; have HO5 := hide ho5; have HB5 := hide hb5; have s5 := hb5.size; have k0 := (hb5.cell (p := ⟨w.heap.size, 0, none⟩) (by simp; omega)).trans q0; have k6 := (hb5.cell (p := ⟨w.heap.size, 6, none⟩) (by simp; omega)).trans q6; have k7 := (hb5.cell (p := ⟨w.heap.size, 7, none⟩) (by simp; omega)).trans q7; have k4 := (hb5.cell (p := ⟨w.heap.size + 1, 4, none⟩) (by simp; omega)).trans m4; have f0 := (hb5.cell (p := ⟨p, 0, none⟩) (by simp; omega)).trans e0; have f4 := (hb5.cell (p := ⟨g, k * 6 + 4, none⟩) (by simp; omega)).trans e4; have ff := (hb5.frozen (p := ⟨g, k * 6 + 4, none⟩) (by simp; omega)).trans ef; clear ho5 hb5 q0 q6 q7 m4 e0 e4 ef))
  have HR5 := hide (HR2.out.below HB5.out)
  have HA5 := hide ((HA2.out.below HB5.out).at')
  have hS6 : Hid (∀ w', AttrsAt w' nd.ao nd.an (nmOf nd.ats) (vlOf nd.ats) → Calls Tryz.prog 58 #[.slice nd.ao nd.an nd.ac, .string nm, .string tx] w' fun e w'' => ∃ a6 c6, e = .returned (.slice a6 (setP nd.ats nm tx).length c6) ∧ AttsAt w'' w'.heap.size (.slice a6 (setP nd.ats nm tx).length c6) (setP nd.ats nm tx) ∧ Below w'.heap.size w' w'') := by
    refine hide fun w' hw => (set_any nd.ao nd.an nd.ac nd.ats nm tx w' HOk.out.an (by have := HOk.out.few; omega) hw).mono ?_
    rintro e w'' ⟨q, rfl, hq, hb⟩
    obtain ⟨a5, c5, rfl⟩ := own_shape hq
    exact ⟨a5, c5, rfl, hq, hb⟩
  have i1 : (0 : Int) ≤ (k : Int) := by omega
  have i2 : (k : Int) < (R.length : Int) := by omega
  have lw : w.heap.size + 1 < w5.heap.size := by omega
  have lp : p < w5.heap.size := by omega
  have lg : g < w5.heap.size := by omega
  have gp' : p ≠ g := fun e => hgp e.symm
  have gb' : w.heap.size ≠ g := by omega
  have gb1 : w.heap.size + 1 ≠ g := by omega
  have gb2 : g ≠ w.heap.size := by omega
  have gb3 : g ≠ w.heap.size + 1 := by omega
  clear k0
  go_region_held3 (fun w' => w'.frozen? ⟨g, k * 6 + 4, none⟩ = false ∧ w'.cell? ⟨p, 0, none⟩ = some (.slice (some ⟨g, 0, none⟩) R.length cap) ∧ w'.cell? ⟨w.heap.size, 6, none⟩ = some (.string nm) ∧ w'.cell? ⟨w.heap.size, 7, none⟩ = some (.string tx) ∧ w'.cell? ⟨w.heap.size + 1, 4, none⟩ = some (.slice nd.ao nd.an nd.ac))
    (first
      | go_keep
      | (go_split_ands
         refine ⟨?_, ?_, ?_, ?_, ?_⟩
         · (rw [hb6.frozen (by simp; omega)]; assumption)
         · (rw [hb6.cell (by simp; omega)]; assumption)
         · (rw [hb6.cell (by simp; omega)]; assumption)
         · (rw [hb6.cell (by simp; omega)]; assumption)
         · (rw [hb6.cell (by simp; omega)]; assumption))
      | (go_split_ands
         refine ⟨?_, ?_, ?_, ?_, ?_⟩
         · go_keep
         · go_keep
         · (rw [World.cell?_of_block (Below.heap_setCell _ _ _ _ gb')]; assumption)
         · (rw [World.cell?_of_block (Below.heap_setCell _ _ _ _ gb')]; assumption)
         · (rw [World.cell?_of_block (Below.heap_setCell _ _ _ _ gb1)]; assumption)))
    ((go_at_call 58; refine (unhide hS6 _ ((unhide HA5).below (Below.refl _ _).drew)).mono ?_; rintro e w6 ⟨a6, c6, rfl, ho6, hb6⟩; have f6 := (hb6.cell (p := ⟨g, k * 6 + 4, none⟩) (by simp; omega)).trans f4))
  go_wp2_with fail
  go_ret
  have hRk : R[k] = nd := HND.out
  have hbx := HB2.out.trans (HB5.out.mono hs2)
  have hby := hbx.trans ((Below.refl w5.heap.size w5).drew.trans hb6 |>.mono (by omega))
  have hz := (HR5.out.below ((Below.refl _ _).drew.trans hb6)).wrote (S' := andNew S w (w6.setCell ⟨g, k * 6 + 4, none⟩ (.slice a6 (setP nd.ats nm tx).length c6))) (fun b _ h => .inl h) k 4 (.slice a6 (setP nd.ats nm tx).length c6) { R[k] with ats := setP nd.ats nm tx, ao := a6, an := (setP nd.ats nm tx).length, ac := c6 } hk (by omega) rfl (by
    have ok := (HR5.out.below ((Below.refl _ _).drew.trans hb6)).node R[k] (List.getElem_mem hk)
    exact attrs_new (w2 := w5) ok hlen (setP_sizes (attrs_sizes HA2.out.an HA2.out.at') hnmo (by unfold maxLen; omega)) ho6 hbx.size lp lg (by rw [size_setCell']))
  rw [hRk] at hz
  refine ⟨rfl, ⟨hby.os, hby.tape, hby.output, by rw [size_setCell']; exact hby.size, fun b hb hn => ?_⟩, _, a6, c6, hz⟩
  exact (Below.heap_setCell w6 ⟨g, k * 6 + 4, none⟩ _ b (fun e => hn (by rw [e]; exact hSg))).trans (hby.block b hb)
end Go.Proofs.YtobgcaemnpkbmaaGreat
