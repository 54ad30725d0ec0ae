/- Gb Gc Gd -/
import Derived.Test.YtobgcaemnpkbmaaMd34
import Derived.Test.YtobgcaemnpkbmaaMd35
namespace Go.Proofs.Ytobgcaemnpkbmaa
open Go.RowKit
theorem bring_ok {T : Int → NI} {nb : Int → Nat} {S : Int → Prop} {L : Nat → Nod} (hTs : ∀ i, (T i).kids.length ≤ 1000 ∧ (T i).ats.length ≤ 5) : ∀ f, f ≤ 1000 → BringOk T nb S (bringP T L f) L f
  | 0, _ => fun _ _ _ _ _ _ _ _ _ _ _ _ _ _ _ _ _ _ _ _ h1 h2 => by omega
  | f + 1, hf1 => fun B WB pv P last w h hB hT N id x hN hx hxk b o s n c hn hf hc hn2 hL hs hP hl0 hl1 => by
    refine bring_by B WB pv P last w h hB (by omega) nb N id x hN hx b o n c (fun i => L (s + i)) hn hc hn2 hL hs (bringKidsP (bringP T L f) T L id x s n last) ?_
    intro pv1 w1 q m qc C hW hTl hrow hm hfr
    have e1 := textP_length id x (L (s + 0))
    have e2 := unsP_length id (nmOf x.ats) (L (s + 0)).nm (L (s + 0)).an x.ats.length
    have e3 := setsP_length id (nmOf x.ats) (vlOf x.ats) x.ats.length (L (s + 0)).nm (L (s + 0)).vl (L (s + 0)).an
    have e4 := (hs 0 hn).an
    have e5 := hx.few
    refine bringKids_by T nb S (bringP T L f) L f (bring_ok hTs f (by omega)) (bringP_few hTs f) hTs B WB pv1 _ last w1 hW (Nat.le_trans hB hTl.touch.size) (hT.tells hTl) N id x (hN.tells hTl) hx hxk b o s n c hn hf hc (by omega) (hL.tells hTl) hs ?_ hl0 hl1 C q m qc hrow hm hfr
    simp only [attrsP, List.length_append]
    omega
def niOf (R : List RN) (i : Int) : NI := match R.find? (fun n => n.id == i) with
  | some n => ⟨n.key, n.tag, n.text, n.ats, kidIds R i⟩
  | none => ⟨0, ⟨#[]⟩, ⟨#[]⟩, [], []⟩
theorem niOf_mem {R : List RN} (hI : Ids R) {n : RN} (h : n ∈ R) : niOf R n.id = ⟨n.key, n.tag, n.text, n.ats, kidIds R n.id⟩ := by
  unfold niOf
  have : R.find? (fun m => m.id == n.id) = some n := by
    obtain ⟨k, hk, e⟩ := List.getElem_of_mem h
    rw [List.find?_eq_some_iff_getElem]
    refine ⟨by simp, k, hk, e, fun j hj => ?_⟩
    simp only [Bool.not_eq_true', beq_eq_false_iff_ne, ne_eq]
    intro e2
    have := hI.inj j k (by omega) hk (by rw [e2, e])
    omega
  rw [this]
theorem niOf_small {R : List RN} (hR : R.length ≤ 800) (hf : ∀ n, n ∈ R → n.ats.length ≤ 5) (i : Int) : (niOf R i).kids.length ≤ 1000 ∧ (niOf R i).ats.length ≤ 5 := by
  unfold niOf
  split
  · next n h =>
    refine ⟨?_, hf n (List.mem_of_find?_eq_some h)⟩
    show (kidIds R i).length ≤ 1000
    unfold kidIds
    rw [List.length_map]
    have := List.length_filter_le (fun n : RN => n.par == i) R
    omega
  · exact ⟨Nat.zero_le _, Nat.zero_le _⟩
def Keys (R : List RN) : Prop := ∀ n, n ∈ R → I64 n.key
theorem table_of {ρ : Roles} {nb : Int → Nat} {mb : Nat} {rt : Option Nat} {w : World} {q : Nat} {R : List RN} {last : Int} (h : Dom ρ nb mb rt w q R last) (hI : Ids R) (hF : Fine R) (hK : Keys R) {WB : Nat} (hρ : ρ WB = none) : TableV WB (.slice none 0 0) w nb (fun i => ∃ n, n ∈ R ∧ n.id = i) (niOf R) where
  node := by
    rintro i ⟨n, hn, rfl⟩
    obtain ⟨av, kv, hp⟩ := h.node n hn
    have hfr : ∀ b j, ρ b = some (n.id, j) → Free WB (.slice none 0 0) w b := fun b j e => ⟨h.low b (by rw [e]; rfl), (fun e2 => by rw [e2, hρ] at e; cases e), (fun e2 => by cases e2)⟩
    rw [niOf_mem hI hn]
    obtain ⟨ao, ac, rfl⟩ := own_shape hp.arow
    obtain ⟨ko, kc, rfl⟩ := own_shape hp.krow
    refine ⟨hfr _ 0 hp.role, cell_of_blk hp.blk 0 _ rfl, cell_of_blk hp.blk 1 _ rfl, cell_of_blk hp.blk 2 _ rfl, cell_of_blk hp.blk 3 _ rfl, ⟨ao, ac, cell_of_blk hp.blk 4 _ rfl, ⟨fun j hj => ?_, fun h0 b o e => ?_⟩⟩, ⟨ko, kc, cell_of_blk hp.blk 6 _ rfl, fun j hj => ?_⟩⟩
    · rcases hp.arow.2 with ⟨e, e0⟩ | ⟨g, cap, cur, e, hb, hg, _⟩
      · simp only at hj; omega
      · simp at e
        obtain ⟨rfl, rfl⟩ := e
        have hm : (nmOf n.ats j, vlOf n.ats j) ∈ n.ats := by
          simp only at hj
          simp only [nmOf, vlOf]
          rw [List.getD_eq_getElem?_getD, List.getElem?_eq_getElem hj]
          exact List.getElem_mem _
        have hs := hp.size _ hm
        have c0 := hp.arow.cellAt (j * 2) (by simp only at hj; omega)
        have c1 := hp.arow.cellAt (j * 2 + 1) (by simp only at hj; omega)
        have a0 := attrCells_get n.ats j 0 hj (by omega)
        have a1 := attrCells_get n.ats j 1 hj (by omega)
        refine ⟨g, 0, rfl, (Array.getElem?_eq_some_iff.1 hg).1, ?_, ?_, hs.1, hs.2⟩
        · rw [Nat.zero_add, c0]; exact a0
        · rw [Nat.zero_add, c1]; exact a1
    · refine hfr b 1 (hp.arole b ?_)
      rw [e]; rfl
    · obtain ⟨g, hl, e, hg, hc⟩ := row_at hp.krow (j := j) hj
      refine ⟨g, e, hfr g 2 (hp.krole g (by rw [e]; rfl)), ?_⟩
      rw [hc]
      simp only [ptrsOf, List.getElem_map]
      rw [List.getD_eq_getElem?_getD, List.getElem?_eq_getElem hj]
      rfl
  kids := by
    rintro i ⟨n, hn, rfl⟩ k hk
    rw [niOf_mem hI hn] at hk
    obtain ⟨m, h1, _, h2⟩ := kidIds_mem.1 hk
    exact ⟨m, h1, h2⟩
  ok := by
    rintro i ⟨n, hn, rfl⟩
    obtain ⟨av, kv, hp⟩ := h.node n hn
    rw [niOf_mem hI hn]
    refine ⟨hp.few, fun j hj => ?_, hp.tag, hK n hn, ?_⟩
    · have hm : (nmOf n.ats j, vlOf n.ats j) ∈ n.ats := by
        simp only at hj
        simp only [nmOf, vlOf]
        rw [List.getD_eq_getElem?_getD, List.getElem?_eq_getElem hj]
        exact List.getElem_mem _
      have := name_size (hF n hn _ hm).1
      simp only at this ⊢
      omega
    · have := h.few
      show (kidIds R n.id).length ≤ 1000
      unfold kidIds
      rw [List.length_map]
      have := List.length_filter_le (fun m : RN => m.par == n.id) R
      omega
theorem part_of {w : World} {b o n : Nat} {L : Nat → Nod} (h : NodesAt w b o n L) {WB : Nat} (hb : b ≠ WB) (ha : ∀ i, i < n → 0 < (L i).an → ∀ g p, (L i).ao = some ⟨g, p, none⟩ → g ≠ WB) : PartV WB (.slice none 0 0) w b o n (fun i => L (0 + i)) := by
  have e : (fun i => L (0 + i)) = L := funext fun i => by rw [Nat.zero_add]
  rw [e]
  refine ⟨⟨h.lt, hb, fun e => by cases e⟩, h.node, fun i hi => ⟨(h.node i hi).ok.at', fun h0 g p e => ⟨?_, ha i hi h0 g p e, fun e => by cases e⟩⟩⟩
  obtain ⟨g2, p2, e2, hl, _⟩ := (h.node i hi).ok.at' 0 h0
  rw [e] at e2
  cases e2
  exact hl
theorem small_of {L : Nat → Nod} {n : Nat} (h : ∀ i, i < n → mayB L i = true) (hk : ∀ i, i < n → I64 (L i).k) : ∀ i, i < n → (L (0 + i)).Small := fun i hi => by
  rw [Nat.zero_add]
  have h1 := el_attr (may_node (h i hi))
  have h2 := el_size (may_node (h i hi))
  have h3 := mayB_depth (h i hi)
  refine ⟨h1.1, fun j hj => ?_, by omega, by omega, hk i hi, by omega⟩
  have h4 := att_name (h1.2 j hj).1
  have h5 := name_size h4.1
  have h6 := text_size h4.2.1
  exact ⟨by omega, by omega⟩
end Go.Proofs.Ytobgcaemnpkbmaa
namespace Go.Proofs.Ytobgcaemnpkbmaa
open Go.RowKit
def diffE (R : List RN) (L : Nat → Nod) (n : Nat) : Int × Int :=
  if (checkOut (mayB L) n).1 = 0 then
    if ((L 0).t.toList == (niOf R 1).tag.toList) && ((L 0).k == (niOf R 1).key) then
      if 800 < R.length + n then (1, 0) else (0, 0)
    else (3, 0)
  else checkOut (mayB L) n
def diffP (R : List RN) (last : Int) (L : Nat → Nod) (n : Nat) : List Pat := (bringP (niOf R) L n 1 (niOf R 1) 0 n last).1
def DiffPost (w : World) (P : List Pat) (no at' : Int) (e : Ending) (w' : World) : Prop := ∃ v, e = .returned (.tuple #[v, .int .i64 no, .int .i64 at']) ∧ w'.ownsRow w.heap.size 43 8 v P.length (patsL P) ∧ Below w.heap.size w w'
theorem pdiff_bad (q : Nat) (ao : Option Addr) (n c : Nat) (w : World) (no at' : Int) (hno : (no != 0) = true) (HC : Hid (Calls Try.prog 23 #[.slice ao n c] w fun e w' => e = .returned (.tuple #[.int .i64 no, .int .i64 at']) ∧ Below w.heap.size w w')) :
    Calls Try.prog 32 #[.pointer (some ⟨q, 0, none⟩), .slice ao n c] w (DiffPost w [] no at') := by
  go_enter Try.func32, Try.ntmps32
  go_wp2_with (first | (go_at_call 23; refine (unhide HC).mono ?_; rintro e w1 ⟨rfl, hb1⟩))
  refine bodyPost_ret (results_tmp3 rfl _ _ _) rfl ?_
  exact ⟨_, rfl, World.ownsRow_nil _ _ _ _, hb1⟩
set_option maxHeartbeats 2000000 in
set_option maxRecDepth 100000 in
theorem pdiff_tag (q rb : Nat) (b o n c : Nat) (w : World) (hn : 0 < n) (tg tg2 : ByteArray) (ky ky2 : Int) (x1 : w.cell? ⟨b, o + 1, none⟩ = some (.string tg)) (x2 : w.cell? ⟨b, o + 2, none⟩ = some (.int .i64 ky)) (q0 : w.cell? ⟨q, 0, none⟩ = some (.pointer (some ⟨rb, 0, none⟩))) (r1 : w.cell? ⟨rb, 1, none⟩ = some (.int .i64 ky2)) (r2 : w.cell? ⟨rb, 2, none⟩ = some (.string tg2)) (hne : (tg.toList == tg2.toList) = false)
    (HC : Hid (Calls Try.prog 23 #[.slice (some ⟨b, o, none⟩) n c] w fun e w' => e = .returned (.tuple #[.int .i64 0, .int .i64 0]) ∧ Below w.heap.size w w')) :
    Calls Try.prog 32 #[.pointer (some ⟨q, 0, none⟩), .slice (some ⟨b, o, none⟩) n c] w (DiffPost w [] 3 0) := by
  have lb := World.block_lt_of_cell? _ _ x1
  have lq := World.block_lt_of_cell? _ _ q0
  have lr := World.block_lt_of_cell? _ _ r1
  go_enter Try.func32, Try.ntmps32
  go_wp2_with (first | (go_at_call 23; refine (unhide HC).mono ?_; rintro e w1 ⟨rfl, hb1⟩; have y1 := (hb1.cell (p := ⟨b, o + 1, none⟩) lb).trans x1; have y2 := (hb1.cell (p := ⟨b, o + 2, none⟩) lb).trans x2; have z0 := (hb1.cell (p := ⟨q, 0, none⟩) lq).trans q0; have z1 := (hb1.cell (p := ⟨rb, 1, none⟩) lr).trans r1; have z2 := (hb1.cell (p := ⟨rb, 2, none⟩) lr).trans r2))
  go_big_quiet (fail)
  go_wp2_with fail
  refine bodyPost_ret (results_tmp3 rfl _ _ _) rfl ?_
  exact ⟨_, rfl, World.ownsRow_nil _ _ _ _, drewN_of hb1 _⟩
set_option maxHeartbeats 2000000 in
set_option maxRecDepth 100000 in
theorem pdiff_key (q rb : Nat) (b o n c : Nat) (w : World) (hn : 0 < n) (tg tg2 : ByteArray) (ky ky2 : Int) (x1 : w.cell? ⟨b, o + 1, none⟩ = some (.string tg)) (x2 : w.cell? ⟨b, o + 2, none⟩ = some (.int .i64 ky)) (q0 : w.cell? ⟨q, 0, none⟩ = some (.pointer (some ⟨rb, 0, none⟩))) (r1 : w.cell? ⟨rb, 1, none⟩ = some (.int .i64 ky2)) (r2 : w.cell? ⟨rb, 2, none⟩ = some (.string tg2)) (heq : (tg.toList == tg2.toList) = true) (hne : (ky == ky2) = false)
    (HC : Hid (Calls Try.prog 23 #[.slice (some ⟨b, o, none⟩) n c] w fun e w' => e = .returned (.tuple #[.int .i64 0, .int .i64 0]) ∧ Below w.heap.size w w')) :
    Calls Try.prog 32 #[.pointer (some ⟨q, 0, none⟩), .slice (some ⟨b, o, none⟩) n c] w (DiffPost w [] 3 0) := by
  have lb := World.block_lt_of_cell? _ _ x1
  have lq := World.block_lt_of_cell? _ _ q0
  have lr := World.block_lt_of_cell? _ _ r1
  go_enter Try.func32, Try.ntmps32
  go_wp2_with (first | (go_at_call 23; refine (unhide HC).mono ?_; rintro e w1 ⟨rfl, hb1⟩; have y1 := (hb1.cell (p := ⟨b, o + 1, none⟩) lb).trans x1; have y2 := (hb1.cell (p := ⟨b, o + 2, none⟩) lb).trans x2; have z0 := (hb1.cell (p := ⟨q, 0, none⟩) lq).trans q0; have z1 := (hb1.cell (p := ⟨rb, 1, none⟩) lr).trans r1; have z2 := (hb1.cell (p := ⟨rb, 2, none⟩) lr).trans r2))
  go_big_quiet (fail)
  go_wp2_with fail
  refine bodyPost_ret (results_tmp3 rfl _ _ _) rfl ?_
  exact ⟨_, rfl, World.ownsRow_nil _ _ _ _, drewN_of hb1 _⟩
set_option maxHeartbeats 2000000 in
set_option maxRecDepth 100000 in
theorem pdiff_many (q rb mb : Nat) (b o n c : Nat) (w : World) (hn : 0 < n) (tg tg2 : ByteArray) (ky ky2 : Int) (x1 : w.cell? ⟨b, o + 1, none⟩ = some (.string tg)) (x2 : w.cell? ⟨b, o + 2, none⟩ = some (.int .i64 ky)) (q0 : w.cell? ⟨q, 0, none⟩ = some (.pointer (some ⟨rb, 0, none⟩))) (r1 : w.cell? ⟨rb, 1, none⟩ = some (.int .i64 ky2)) (r2 : w.cell? ⟨rb, 2, none⟩ = some (.string tg2)) (heq : (tg.toList == tg2.toList) = true) (N : Nat) (hn4 : n ≤ 400) (q1 : w.cell? ⟨q, 1, none⟩ = some (.map (some mb))) (hlen : ∀ w', Below w.heap.size w w' → ∀ ty, (Builtin.len_ #[68] ty #[.map (some mb)]).run Try.prog w' = .ok (.int .i64 N) w') (hne : ky = ky2) (hmany : 800 < N + n)
    (HC : Hid (Calls Try.prog 23 #[.slice (some ⟨b, o, none⟩) n c] w fun e w' => e = .returned (.tuple #[.int .i64 0, .int .i64 0]) ∧ Below w.heap.size w w')) :
    Calls Try.prog 32 #[.pointer (some ⟨q, 0, none⟩), .slice (some ⟨b, o, none⟩) n c] w (DiffPost w [] 1 0) := by
  subst hne
  have HL := hide hlen
  clear hlen
  have lb := World.block_lt_of_cell? _ _ x1
  have lq := World.block_lt_of_cell? _ _ q0
  have lr := World.block_lt_of_cell? _ _ r1
  go_enter Try.func32, Try.ntmps32
  go_wp2_with (first | (go_at_call 23; refine (unhide HC).mono ?_; rintro e w1 ⟨rfl, hb1⟩; have y1 := (hb1.cell (p := ⟨b, o + 1, none⟩) lb).trans x1; have y2 := (hb1.cell (p := ⟨b, o + 2, none⟩) lb).trans x2; have z0 := (hb1.cell (p := ⟨q, 0, none⟩) lq).trans q0; have z1 := (hb1.cell (p := ⟨rb, 1, none⟩) lr).trans r1; have z2 := (hb1.cell (p := ⟨rb, 2, none⟩) lr).trans r2))
  go_big_quiet (fail)
  have hb2 := drewN_of hb1 nq
  generalize w1.drewN nq = w2 at hb2 ⊢
  have z3 := (hb2.cell (p := ⟨q, 1, none⟩) lq).trans q1
  have hlq := HL.out _ hb2
  have hgt : (800 : Int) - n < N := by omega
  go_wp2_with fail
  refine bodyPost_ret (results_tmp3 rfl _ _ _) rfl ?_
  exact ⟨_, rfl, World.ownsRow_nil _ _ _ _, hb2⟩
set_option maxHeartbeats 2000000 in
set_option maxRecDepth 100000 in
theorem pdiff_ok (q rb mb : Nat) (b o n c : Nat) (w : World) (hn : 0 < n) (tg tg2 : ByteArray) (ky ky2 : Int) (x1 : w.cell? ⟨b, o + 1, none⟩ = some (.string tg)) (x2 : w.cell? ⟨b, o + 2, none⟩ = some (.int .i64 ky)) (q0 : w.cell? ⟨q, 0, none⟩ = some (.pointer (some ⟨rb, 0, none⟩))) (r1 : w.cell? ⟨rb, 1, none⟩ = some (.int .i64 ky2)) (r2 : w.cell? ⟨rb, 2, none⟩ = some (.string tg2)) (heq : (tg.toList == tg2.toList) = true) (N : Nat) (hn4 : n ≤ 400) (q1 : w.cell? ⟨q, 1, none⟩ = some (.map (some mb))) (hlen : ∀ w', Below w.heap.size w w' → ∀ ty, (Builtin.len_ #[68] ty #[.map (some mb)]).run Try.prog w' = .ok (.int .i64 N) w') (hne : ky = ky2) (hfew : N + n ≤ 800) (last : Int) (q2 : w.cell? ⟨q, 2, none⟩ = some (.int .i64 last)) (r : List Pat × Int)
    (HC : Hid (Calls Try.prog 23 #[.slice (some ⟨b, o, none⟩) n c] w fun e w' => e = .returned (.tuple #[.int .i64 0, .int .i64 0]) ∧ Below w.heap.size w w'))
    (HB : Hid (∀ w2 w3, Below w.heap.size w w2 → Below w2.heap.size w2 w3 → w3.heap[w2.heap.size]? = some (.cells #[.slice none 0 0, .int .i64 last] 84 (0, 0)) → Calls Try.prog 41 #[.pointer (some ⟨w2.heap.size, 0, none⟩), .pointer (some ⟨rb, 0, none⟩), .slice (some ⟨b, o, none⟩) n c] w3 (Told w2.heap.size w2.heap.size (.slice none 0 0) [] w3 r))) :
    Calls Try.prog 32 #[.pointer (some ⟨q, 0, none⟩), .slice (some ⟨b, o, none⟩) n c] w (DiffPost w r.1 0 0) := by
  subst hne
  have HL := hide hlen
  clear hlen
  have lb := World.block_lt_of_cell? _ _ x1
  have lq := World.block_lt_of_cell? _ _ q0
  have lr := World.block_lt_of_cell? _ _ r1
  go_enter Try.func32, Try.ntmps32
  go_wp2_with (first | (go_at_call 23; refine (unhide HC).mono ?_; rintro e w1 ⟨rfl, hb1⟩; have y1 := (hb1.cell (p := ⟨b, o + 1, none⟩) lb).trans x1; have y2 := (hb1.cell (p := ⟨b, o + 2, none⟩) lb).trans x2; have z0 := (hb1.cell (p := ⟨q, 0, none⟩) lq).trans q0; have z1 := (hb1.cell (p := ⟨rb, 1, none⟩) lr).trans r1; have z2 := (hb1.cell (p := ⟨rb, 2, none⟩) lr).trans r2))
  go_big_quiet (fail)
  have hb2 := drewN_of hb1 nq
  generalize w1.drewN nq = w2 at hb2 ⊢
  have z3 := (hb2.cell (p := ⟨q, 1, none⟩) lq).trans q1
  have hlq := HL.out _ hb2
  have hgt : ¬ (800 : Int) - n < N := by omega
  have z4 := (hb2.cell (p := ⟨q, 2, none⟩) lq).trans q2
  have z5 := (hb2.cell (p := ⟨q, 0, none⟩) lq).trans q0
  have lq2 : q < w2.heap.size := Nat.lt_of_lt_of_le lq hb2.size
  have hb3 : Below w2.heap.size w2 (w2.alloc (.cells #[.slice none 0 0, .int .i64 last] 84)) := (Below.refl _ _).alloc (Nat.le_refl _) _
  have HC3 := hide (HB.out w2 _ hb2 hb3 (by show (w2.heap.push _)[w2.heap.size]? = _; simp))
  have HB3 := hide hb3
  have HB2 := hide hb2
  clear z0 z1 z2 y1 y2 hb3
  go_wp2_with (first | (go_at_call 41; refine (unhide HC3).mono ?_; rintro e w4 ⟨rfl, pv4, hW4, hT4⟩; have k0 := hW4.c0; have lw := hW4.lt; have HW4 := hide hW4; have HT4 := hide hT4; clear hW4 hT4))
  refine bodyPost_ret (results_tmp3 rfl _ _ _) rfl ?_
  have hs3 : w2.heap.size ≤ (w2.alloc (.cells #[.slice none 0 0, .int .i64 last] 84)).heap.size := HB3.out.size
  have hB4 : Below w2.heap.size w2 w4 := by
    have ht := HT4.out.touch
    refine HB3.out.trans ⟨ht.os, ht.tape, ht.output, ht.size, fun b hb => ht.block b (Nat.lt_of_lt_of_le hb hs3) ?_⟩
    rintro (e | e)
    · omega
    · cases e
  refine ⟨_, rfl, ?_, HB2.out.trans (hB4.mono HB2.out.size)⟩
  have hrow := HW4.out.row
  rw [List.nil_append] at hrow
  refine ⟨hrow.1, hrow.2.imp (fun h => h) fun ⟨g, cap, cur, h1, h2, h3⟩ => ⟨g, cap, cur, h1, Nat.le_trans HB2.out.size h2, h3⟩⟩
end Go.Proofs.Ytobgcaemnpkbmaa
namespace Go.Proofs.Ytobgcaemnpkbmaa
open Go.RowKit
theorem check_none {f : Nat → Bool} {n : Nat} (h : (checkOut f n).1 = 0) : checkOut f n = (0, 0) ∧ 0 < n ∧ n ≤ 400 ∧ ∀ i, i < n → f i = true := by
  unfold checkOut at h ⊢
  by_cases hn : n < 1 ∨ 400 < n
  · rw [if_pos hn] at h; cases h
  · rw [if_neg hn] at h ⊢
    unfold search at h ⊢
    cases hx : (List.range n).find? (fun i => !f i) with
    | some i => rw [hx] at h; cases h
    | none =>
      refine ⟨rfl, by omega, by omega, fun i hi => ?_⟩
      have := List.find?_eq_none.1 hx i (List.mem_range.2 hi)
      simpa using this
theorem dom_root {ρ : Roles} {nb : Int → Nat} {mb : Nat} {w : World} {q : Nat} {R : List RN} {last : Int} (h : Dom ρ nb mb (some (nb 1)) w q R last) (hok : DocOk R last) :
    w.cell? ⟨q, 0, none⟩ = some (.pointer (some ⟨nb 1, 0, none⟩)) ∧ w.cell? ⟨nb 1, 1, none⟩ = some (.int .i64 (niOf R 1).key) ∧ w.cell? ⟨nb 1, 2, none⟩ = some (.string (niOf R 1).tag) := by
  obtain ⟨n, hn, e1, _⟩ := hok.root
  obtain ⟨av, kv, hp⟩ := h.node n hn
  have hni := niOf_mem hok.ids hn
  have hb := hp.blk
  rw [e1] at hni hb
  rw [hni]
  exact ⟨cell_of_blk h.blk 0 _ rfl, cell_of_blk hb 1 _ rfl, cell_of_blk hb 2 _ rfl⟩
theorem pdiff_any (ρ : Roles) (nb : Int → Nat) (mb : Nat) (w : World) (q : Nat) (R : List RN) (last : Int) (h : Dom ρ nb mb (some (nb 1)) w q R last) (hok : DocOk R last) (hF : Fine R) (hK : Keys R) (hl1 : last + 400 ≤ 4611686018427387904) (ao : Option Addr) (n c : Nat) (L : Nat → Nod) (hn : n ≤ maxLen) (hc : n ≤ c) (hL : ListAt w ao n L) (hk : ∀ i, i < n → I64 (L i).k) :
    Calls Try.prog 32 #[.pointer (some ⟨q, 0, none⟩), .slice ao n c] w (DiffPost w (if (diffE R L n).1 = 0 then diffP R last L n else []) (diffE R L n).1 (diffE R L n).2) := by
  have HC := treeCheck_any ao n c L w hn hL
  by_cases hz : (checkOut (mayB L) n).1 = 0
  · obtain ⟨e0, hn0, hn4, hmay⟩ := check_none hz
    rw [e0] at HC
    obtain ⟨b, o, rfl, hNs⟩ := hL hn0
    obtain ⟨q0, r1, r2⟩ := dom_root h hok
    have hnd := hNs.node 0 hn0
    rw [Nat.zero_mul, Nat.add_zero] at hnd
    have hE : diffE R L n = if ((L 0).t.toList == (niOf R 1).tag.toList) && ((L 0).k == (niOf R 1).key) then if 800 < R.length + n then (1, 0) else (0, 0) else (3, 0) := by unfold diffE; rw [if_pos hz]
    cases hq : ((L 0).t.toList == (niOf R 1).tag.toList) with
    | false =>
      rw [hE, hq]
      exact pdiff_tag q (nb 1) b o n c w hn0 _ _ _ _ hnd.c1 hnd.c2 q0 r1 r2 hq (hide HC)
    | true =>
      cases hy : ((L 0).k == (niOf R 1).key) with
      | false =>
        rw [hE, hq, hy]
        exact pdiff_key q (nb 1) b o n c w hn0 _ _ _ _ hnd.c1 hnd.c2 q0 r1 r2 hq hy (hide HC)
      | true =>
        have hy2 : (L 0).k = (niOf R 1).key := by simpa using hy
        have q1 : w.cell? ⟨q, 1, none⟩ = some (.map (some mb)) := cell_of_blk h.blk 1 _ rfl
        have q2 : w.cell? ⟨q, 2, none⟩ = some (.int .i64 last) := cell_of_blk h.blk 2 _ rfl
        have hlen : ∀ w', Below w.heap.size w w' → ∀ ty, (Builtin.len_ #[68] ty #[.map (some mb)]).run Try.prog w' = .ok (.int .i64 R.length) w' := fun w' hb ty => (h.map.heap (hb.block mb h.map.lt)).len ty
        by_cases hm : 800 < R.length + n
        · rw [hE, hq, hy, if_pos hm]
          exact pdiff_many q (nb 1) mb b o n c w hn0 _ _ _ _ hnd.c1 hnd.c2 q0 r1 r2 hq R.length hn4 q1 hlen hy2 hm (hide HC)
        · rw [hE, hq, hy, if_neg hm]
          refine pdiff_ok q (nb 1) mb b o n c w hn0 _ _ _ _ hnd.c1 hnd.c2 q0 r1 r2 hq R.length hn4 q1 hlen hy2 (by omega) last q2 (bringP (niOf R) L n 1 (niOf R 1) 0 n last) (hide HC) (hide fun w2 w3 hb2 hb3 hblk => ?_)
          have hw3 : Below w.heap.size w w3 := hb2.trans (hb3.mono hb2.size)
          have hdom := h.below hw3
          have hρ : ρ w2.heap.size = none := by
            cases e : ρ w2.heap.size with
            | none => rfl
            | some v => have := h.low w2.heap.size (by rw [e]; rfl); have := hb2.size; omega
          have hlt3 : w2.heap.size < w3.heap.size := lt_of_blk hblk
          obtain ⟨n1, hn1, e1, _⟩ := hok.root
          have hT := table_of hdom hok.ids hF hK hρ
          have hS1 : ∃ m, m ∈ R ∧ m.id = 1 := ⟨n1, hn1, e1⟩
          have hNb := hNs.below hw3
          refine bring_ok (L := L) (niOf_small h.few fun m hm => ?_) n (by omega) w2.heap.size w2.heap.size (.slice none 0 0) [] last w3 ⟨cell_of_blk hblk 0 _ rfl, frozen_of_blk hblk 0, cell_of_blk hblk 1 _ rfl, frozen_of_blk hblk 1, World.ownsRow_nil _ _ _ _, (fun b e => by cases e), hlt3⟩ (Nat.le_of_lt hlt3) hT (nb 1) 1 (niOf R 1) (hT.node 1 hS1) (hT.ok 1 hS1) (hT.kids 1 hS1) b o 0 n c hn0 (Nat.le_refl _) hc (by omega) (part_of hNb ?_ ?_) (small_of hmay hk) ?_ ?_ ?_
          · obtain ⟨av, kv, hp⟩ := h.node m hm
            exact hp.few
          · have := hNs.lt; have := hb2.size; omega
          · intro i hi h0 g p e
            obtain ⟨g2, p2, e2, hl2, _⟩ := (hNs.node i hi).ok.at' 0 h0
            rw [e] at e2
            cases e2
            have := hb2.size
            omega
          · simp; omega
          · have := hok.last_pos; omega
          · omega
  · have hE : diffE R L n = checkOut (mayB L) n := by unfold diffE; rw [if_neg hz]
    rw [hE, if_neg hz]
    exact pdiff_bad q ao n c w _ _ (by simpa using hz) (hide HC)
theorem wrap_diff (db q : Nat) (w : World) (ao : Option Addr) (n c : Nat) (Q : Value → Int → Int → World → Prop) (c0 : w.cell? ⟨db, 0, none⟩ = some (.pointer (some ⟨q, 0, none⟩))) (HC : Hid (Calls Try.prog 32 #[.pointer (some ⟨q, 0, none⟩), .slice ao n c] w fun e w' => ∃ v x y, e = .returned (.tuple #[v, .int .i64 x, .int .i64 y]) ∧ Q v x y w')) :
    Calls Try.prog 20 #[.pointer (some ⟨db, 0, none⟩), .slice ao n c] w fun e w' => ∃ v x y, e = .returned (.tuple #[v, .int .i64 x, .int .i64 y]) ∧ Q v x y w' := by
  go_enter Try.func20, Try.ntmps20
  go_wp2_with (first | (go_at_call 32; refine (unhide HC).mono ?_; rintro e w2 ⟨v, x, y, rfl, h2⟩))
  refine bodyPost_ret (results_tmp3 rfl _ _ _) rfl ?_
  exact ⟨v, x, y, rfl, h2⟩
end Go.Proofs.Ytobgcaemnpkbmaa
