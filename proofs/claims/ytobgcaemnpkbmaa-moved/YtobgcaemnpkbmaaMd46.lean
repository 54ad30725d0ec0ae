/- Km Kn -/
import Derived.Test.YtobgcaemnpkbmaaMd45
namespace Go.Proofs.Ytobgcaemnpkbmaa
open Go.RowKit
def nodC (n : Nod) : List Value := [.int .i64 n.d, .string n.t, .int .i64 n.k, .slice n.ao n.an n.ac, .string n.x]
theorem flat5 {α : Type} (f : α → List Value) (hf : ∀ a, (f a).length = 5) : ∀ (l : List α) (i r : Nat) (hi : i < l.length), r < 5 → (l.flatMap f)[i * 5 + r]? = (f l[i])[r]?
  | [], _, _, hi, _ => absurd hi (Nat.not_lt_zero _)
  | a :: l, 0, r, _, hr => by
    rw [List.flatMap_cons, List.getElem?_append_left (by rw [hf]; omega)]
    simp
  | a :: l, i + 1, r, hi, hr => by
    rw [List.flatMap_cons, List.getElem?_append_right (by rw [hf]; omega), hf, show (i + 1) * 5 + r - 5 = i * 5 + r by omega, flat5 f hf l i r (by simpa using hi) hr]
    rfl
theorem keyCells_get (ks : List Int) (i r : Nat) (hi : i < ks.length + 1) (hr : r < 5) : (keyCells ks)[i * 5 + r]? = (nodC (kTree ks i))[r]? := by
  unfold keyCells
  cases i with
  | zero =>
    rw [List.getElem?_append_left (by show _ < 5; omega)]
    rw [Nat.zero_mul, Nat.zero_add]
    rfl
  | succ i =>
    rw [List.getElem?_append_right (by show 5 ≤ _; omega)]
    show (ks.flatMap _)[(i + 1) * 5 + r - 5]? = _
    rw [show (i + 1) * 5 + r - 5 = i * 5 + r by omega, flat5 _ (fun _ => rfl) ks i r (by omega) hr, kTree_succ, getD_lt (show i < ks.length by omega)]
    rfl
theorem keys_list {w : World} {B : Nat} {ao : Option Addr} {n c : Nat} {ks : List Int} (h : w.ownsRow B 28 5 (.slice ao n c) n (keyCells ks)) (hn : n = ks.length + 1) : ListAt w ao n (kTree ks) ∧ n ≤ c ∧ ∃ g, ao = some ⟨g, 0, none⟩ ∧ g < w.heap.size := by
  rcases h.2 with ⟨e, e0⟩ | ⟨g, cap, cur, e, hb, hg, hc, _⟩
  · omega
  · simp at e
    obtain ⟨rfl, rfl⟩ := e
    refine ⟨fun h0 => ⟨g, 0, rfl, (Array.getElem?_eq_some_iff.1 hg).1, fun i hi => ?_⟩, hc, g, rfl, (Array.getElem?_eq_some_iff.1 hg).1⟩
    have cell : ∀ r, r < 5 → w.cell? ⟨g, 0 + i * 5 + r, none⟩ = (nodC (kTree ks i))[r]? := fun r hr => by
      rw [Nat.zero_add, h.cellAt (i * 5 + r) (by omega), keyCells_get ks i r (by omega) hr]
    have hsm : (kTree ks i).an = 0 ∧ (kTree ks i).t.size ≤ 2 ∧ (kTree ks i).x.size ≤ 0 := by
      cases i with
      | zero => rw [kTree_zero]; exact ⟨rfl, by decide, by decide⟩
      | succ i => rw [kTree_succ]; exact ⟨rfl, show (⟨#[108, 105]⟩ : ByteArray).size ≤ 2 by decide, show (⟨#[]⟩ : ByteArray).size ≤ 0 by decide⟩
    refine ⟨cell 0 (by omega), cell 1 (by omega), cell 2 (by omega), cell 3 (by omega), cell 4 (by omega), ⟨?_, ?_, ?_, ?_⟩⟩
    · rw [hsm.1]; exact Nat.zero_le _
    · unfold maxLen; omega
    · unfold maxLen; omega
    · rw [hsm.1]; exact fun j hj => absurd hj (Nat.not_lt_zero _)
theorem kTree_i64 {ks : List Int} (h : KeysOk ks) : ∀ i, i < ks.length + 1 → I64 (kTree ks i).k := fun i hi => by
  cases i with
  | zero => rw [kTree_zero]; exact ⟨by decide, by decide⟩
  | succ i =>
    have := h.low _ (getD_mem (show i < ks.length by omega))
    rw [kTree_succ]
    exact ⟨by show _ ≤ ks.getD i 0; omega, by show ks.getD i 0 ≤ _; omega⟩
theorem st_diffW (W w : World) (db : Nat) (L0 : Nat → Nod) (n0 : Nat) (R : List RN) (last : Int) (h : St W w db L0 n0 R last) (hl : last + 400 ≤ 4611686018427387904) (ao : Option Addr) (n c : Nat) (L : Nat → Nod) (hn : n ≤ maxLen) (hc : n ≤ c) (hLw : ListAt w ao n L) (hk : ∀ i, i < n → I64 (L i).k) (P : List Pat) (hE : diffE R L n = (0, 0)) (hP : diffP R last L n = P) :
    Calls Try.prog 20 #[.pointer (some ⟨db, 0, none⟩), .slice ao n c] w fun e w' => ∃ pa pc, e = .returned (.tuple #[.slice pa P.length pc, .int .i64 0, .int .i64 0]) ∧ w'.ownsRow w.heap.size 43 8 (.slice pa P.length pc) P.length (patsL P) ∧ Below w.heap.size w w' := by
  obtain ⟨ρ, nb, mb, q, h⟩ := h
  refine (ddiff ρ nb mb q db w R last h.dom (h.tree.keys h.keys) hl ao n c L hn hc hLw hk).mono ?_
  rintro e w' ⟨v, x, y, rfl, rfl, rfl, h1, h2⟩
  rw [hE] at h1 ⊢
  simp only [if_true, hP] at h1
  obtain ⟨pa, pc, rfl⟩ := own_shape h1
  exact ⟨pa, pc, rfl, h1, h2⟩
theorem st_applyK (W w0 w : World) (db : Nat) (L0 : Nat → Nod) (n0 : Nat) (R : List RN) (last : Int) (h : St W w0 db L0 n0 R last) (hb : Below w0.heap.size w0 w) (hl : last + 500000 ≤ 4611686018427387904) (L : Nat → Nod) (n : Nat) (hn : 0 < n) (hn4 : n ≤ 400) (hmay : ∀ i, i < n → mayB L i = true) (hk : ∀ i, i < n → I64 (L i).k) (ht : (niOf R 1).tag = (L 0).t) (hy : (niOf R 1).key = (L 0).k) (pa : Option Addr) (pc : Nat) (hrow : w.ownsRow w0.heap.size 43 8 (.slice pa (diffP R last L n).length pc) (diffP R last L n).length (patsL (diffP R last L n))) :
    Calls Try.prog 15 #[.pointer (some ⟨db, 0, none⟩), .slice pa (diffP R last L n).length pc] w fun e w' => e = .returned (.tuple #[.int .i64 0, .int .i64 0]) ∧ w'.ownsRow w0.heap.size 43 8 (.slice pa (diffP R last L n).length pc) (diffP R last L n).length (patsL (diffP R last L n)) ∧ ∃ R' last', St W w' db L n R' last' ∧ last' ≤ last + 400 ∧ KeepAt R' (niOf R) L n 1 (niOf R 1).kids 0 n := by
  have hlen := h.len
  obtain ⟨ρ, nb, mb, q, h⟩ := h
  obtain ⟨R', last', r1, r2, r3, r4, r5⟩ := h.tree.diff (by omega) hn hn4 hmay ht hy
  obtain ⟨e1, e2⟩ := runL_runs r1
  have hsm := niOf_small (R := R) (by omega) h.tree.ats
  have hPl := (bringP_few (L := L) hsm n 1 (niOf R 1) 0 n last (hsm 1).1 (hsm 1).2 hn (Nat.le_refl _) (fun i hi => by rw [Nat.zero_add]; exact (el_attr (may_node (hmay i hi))).1)).1
  have hPl : (diffP R last L n).length + 2 ≤ 1020 * n := hPl
  have hD := h.dom.below hb
  have hfree : ∀ a, pa = some a → ρ a.block = none := fun a ea => by
    cases e : ρ a.block with
    | none => rfl
    | some v =>
      have := h.dom.dom.low a.block (by rw [e]; rfl)
      have := (hrow.lt a.block (by rw [ea]; rfl)).1
      omega
  refine (dapply ρ nb mb q db w R last hD pa _ pc (patAt (diffP R last L n)) (by omega) (by omega) (pats_row hrow rfl) (fun _ => hfree) (runs_ok h.tree.ok h.tree.fine e1 (by omega))).mono ?_
  rintro e w' ⟨x, y, rfl, k, hk', hr, ⟨nb', ρ', hw, hd⟩, hout⟩
  rcases hout with ⟨rfl, rfl, rfl⟩ | ⟨h1, h2, _⟩
  · rw [e2] at hd
    refine ⟨rfl, ?_, R', last', ⟨ρ', nb', mb, q, hd, r2, hn4, hk, ?_, fun b e => ?_⟩, by omega, r5⟩
    · refine ⟨hrow.1, hrow.2.imp id ?_⟩
      rintro ⟨g, cap, cur, e, g1, g2, g3⟩
      refine ⟨g, cap, cur, e, g1, ?_, g3⟩
      simp at e
      rw [hw.1.block g (Array.getElem?_eq_some_iff.1 g2).1 (by rw [hfree _ e.1]; simp)]
      exact g2
    · exact below_wroteK (h.bel.trans (hb.mono h.bel.size)) hw h.new
    · rcases hw.2.2 b e with e3 | e3
      · exact h.new b e3
      · exact Nat.le_trans (Nat.le_trans h.bel.size hb.size) e3
  · rw [e1 k h1] at h2
    cases h2
theorem wid_flat {R : List RN} {last : Int} {L : Nat → Nod} {n : Nat} (h : IsTree R last L n) (hf : Flat L n) {r : Nat} (hr : r < R.length) (hr1 : R[r].id = 1) : widP R R.length r = 1 :: (niOf R 1).kids := by
  obtain ⟨_, _, _, hRn⟩ := h.tells hr hr1
  obtain ⟨k1, k2⟩ := flat_kid h hf
  obtain ⟨rk, hU⟩ := h.ok.up
  have hI := h.ok.ids
  have hfit := fitP_all hU hr
  have e : idAt R r = 1 := by rw [idAt_lt hr, hr1]
  have hH : Has R 1 := ⟨_, List.getElem_mem hr, hr1⟩
  have hks : (kidsP R 1).map (idAt R) = (niOf R 1).kids := by rw [ni_kids hI hH, kids_ids R (by decide)]
  clear hr1
  have hm : R.length = n := hRn
  generalize hmm : R.length = m at hfit ⊢
  match m, hfit with
  | m + 1, ⟨_, hk⟩ =>
    rw [widP, e]
    rw [e] at hk
    congr 1
    have hkl : (kidsP R 1).length = m := by rw [← List.length_map (f := idAt R), hks, k1]; omega
    have hone : ∀ a, a ∈ kidsP R 1 → widP R m a = [idAt R a] := fun a ha => by
      have hm0 : 0 < m := by rw [← hkl]; exact List.length_pos_of_mem ha
      have hfa := hk a ha
      match m, hfa with
      | m + 1, ⟨ha1, _⟩ =>
        rw [widP]
        have hHa : Has R (idAt R a) := by rw [idAt_lt ha1]; exact ⟨_, List.getElem_mem ha1, rfl⟩
        have h0 : idAt R a ≠ 0 := by have := has_pos hI hHa; omega
        have hka : (kidsP R (idAt R a)).map (idAt R) = (niOf R (idAt R a)).kids := by rw [ni_kids hI hHa, kids_ids R h0]
        have hmem : idAt R a ∈ (niOf R 1).kids := by rw [← hks]; exact List.mem_map.2 ⟨a, ha, rfl⟩
        obtain ⟨p, hp, ep⟩ := List.getElem_of_mem hmem
        have := (k2 p (by omega)).1
        rw [getD_lt hp, ep] at this
        rw [this] at hka
        rw [List.map_eq_nil_iff.1 hka]
        rfl
    rw [← hks]
    have : ∀ l : List Nat, (∀ a, a ∈ l → widP R m a = [idAt R a]) → l.flatMap (widP R m) = l.map (idAt R) := fun l => by
      induction l with
      | nil => intro _; rfl
      | cons a l ih => intro h; rw [List.flatMap_cons, h a (List.mem_cons_self ..), ih fun b hb => h b (List.mem_cons_of_mem _ hb)]; rfl
    exact this _ hone
theorem st_idsK (W w : World) (db : Nat) (L : Nat → Nod) (n : Nat) (hf : Flat L n) (R : List RN) (last : Int) (h : St W w db L n R last) :
    Calls Try.prog 16 #[.pointer (some ⟨db, 0, none⟩)] w fun e w' => ∃ g c, e = .returned (.slice (some ⟨g, 0, none⟩) n c) ∧ g < w'.heap.size ∧ (∀ i, i < n → w'.cell? ⟨g, i, none⟩ = some (.int .i64 ((1 :: (niOf R 1).kids).getD i 0))) ∧ Below w.heap.size w w' := by
  obtain ⟨ρ, nb, mb, q, h⟩ := h
  obtain ⟨r, hr, hr1, _⟩ := root_at h.tree.ok
  have ht := (h.tree.tells hr hr1).2.2.1
  have hw := wid_flat h.tree hf hr hr1
  have hp := h.tree.pos
  refine (dids ρ nb mb q db w R last h.dom r hr hr1).mono ?_
  rintro e w' ⟨v, rfl, hrow, hb⟩
  rw [ht, hw] at hrow
  rw [hw] at ht
  rcases hrow.2 with ⟨e, e0⟩ | ⟨g, cap, cur, rfl, hbg, hg, hc, _⟩
  · omega
  · refine ⟨g, cap, rfl, (Array.getElem?_eq_some_iff.1 hg).1, fun i hi => ?_, hb⟩
    rw [hrow.cellAt i (by omega)]
    unfold ints
    rw [List.getElem?_map, List.getElem?_eq_getElem (by omega), getD_lt (by omega)]
    rfl
theorem made_kid {ka : List Int} (hk : KeysOk ka) {p : Nat} (hp : p < ka.length) : (niOf (madeR (kTree ka) (ka.length + 1)) 1).kids.getD p 0 = (p : Int) + 2 := by
  have hmay := kTree_may hk
  have hpc := piece_of (n := ka.length + 1) (by omega) hmay
  have hkd := made_kids (s := 0) (n := ka.length + 1) hmay hpc ⟨by omega, fun h => by omega⟩
  have his := made_is (n := ka.length + 1) (by omega) hmay
  obtain ⟨m, hm, e1, _⟩ := his.ok.root
  rw [parts_flat (by omega) fun i h1 h2 => by rw [Nat.zero_add]; exact (kTree_flat ka).deep i h1 h2] at hkd
  rw [ni_kids his.ok.ids ⟨m, hm, e1⟩]
  have e : ((0 : Nat) : Int) + 1 = 1 := rfl
  rw [e] at hkd
  rw [hkd, List.getD_eq_getElem?_getD, List.getElem?_map, List.getElem?_map, List.getElem?_range (by omega)]
  simp
  omega
theorem kid_was {ka kb : List Int} (ha : KeysOk ka) (hb : KeysOk kb) {R' : List RN} (h : KeepAt R' (niOf (madeR (kTree ka) (ka.length + 1))) (kTree kb) (kb.length + 1) 1 (niOf (madeR (kTree ka) (ka.length + 1)) 1).kids 0 (kb.length + 1)) {k : Nat} (hk : k < kb.length) (hm : kb.getD k 0 ∈ ka) : (niOf R' 1).kids.getD k 0 = posK ka (kb.getD k 0) + 2 := by
  have his := made_is (n := ka.length + 1) (by omega) (kTree_may ha)
  have hps : partsOf (kTree kb) 0 (kb.length + 1) = (List.range kb.length).map fun j : Nat => (j + 1, j + 2) := by
    rw [parts_flat (by omega) fun i h1 h2 => by rw [Nat.zero_add]; exact (kTree_flat kb).deep i h1 h2]
    rfl
  have hpr := pr_keys his ha.nodup hb.nodup
  unfold KeepAt at h
  rw [hps, hpr] at h
  have hg : (kb.map (posK ka)).getD k 0 = posK ka (kb.getD k 0) := by
    rw [List.getD_eq_getElem?_getD, List.getElem?_map, List.getElem?_eq_getElem hk, getD_lt hk]
    rfl
  obtain ⟨p, hp, e⟩ := mem_getD hm
  have hpos := posK_at ha.nodup hp
  rw [← e] at hpos
  have := (h k (by simpa using hk) (by rw [hg, hpos]; omega)).1
  rw [this, hg, hpos, Int.toNat_natCast, made_kid ha hp]
def wasTo (ka : List Int) (key : Int) : Nat → Int
  | 0 => 0
  | k + 1 => if ka.getD k 0 = key then (k : Int) + 1 else wasTo ka key k
theorem wasTo_none {ka : List Int} {key : Int} : ∀ k, (∀ p, p < k → ka.getD p 0 ≠ key) → wasTo ka key k = 0
  | 0, _ => rfl
  | k + 1, h => by rw [wasTo, if_neg (h k (by omega)), wasTo_none k fun p hp => h p (by omega)]
theorem wasTo_all {ka : List Int} (h : ka.Nodup) (key : Int) : wasTo ka key ka.length = posK ka key + 1 := by
  by_cases hm : key ∈ ka
  · obtain ⟨p, hp, rfl⟩ := mem_getD hm
    rw [posK_at h hp]
    have : ∀ k, p < k → k ≤ ka.length → wasTo ka (ka.getD p 0) k = (p : Int) + 1 := by
      intro k
      induction k with
      | zero => intro h; omega
      | succ k ih =>
        intro h1 h2
        rw [wasTo]
        by_cases e : k = p
        · rw [e, if_pos rfl]
        · rw [if_neg fun e2 => e (nodup_inj h (by omega) hp e2), ih (by omega) (by omega)]
    exact this _ hp (Nat.le_refl _)
  · rw [posK_none hm, wasTo_none _ fun p hp e => hm (by rw [← e]; exact getD_mem hp)]
    rfl
theorem came_step {ka kb : List Int} {i : Nat} (h : i < kb.length) : cameK ka (kb.take (i + 1)) = cameK ka (kb.take i) + if kb.getD i 0 ∈ ka then 0 else 1 := by
  unfold cameK
  rw [List.take_succ_eq_append_getElem h, List.countP_append, getD_lt h]
  by_cases hm : kb[i] ∈ ka <;> simp [hm]
theorem kind_step {P : List Pat} {j : Int} {i : Nat} (h : i < P.length) : kindN j (P.take (i + 1)) = kindN j (P.take i) + if P[i].kind = j then 1 else 0 := by
  rw [List.take_succ_eq_append_getElem h, kindN_app, kindN_one]
def cutK (kb : List Int) (i j : Nat) : List Value := if j = 0 then [] else keyCells ((kb.take (j - 1)).eraseIdx (i - 1))
def cutN (i j : Nat) : Nat := if i < j then j - 1 else j
theorem cutK_on {kb : List Int} {i j : Nat} (hi : 1 ≤ i) (hj : j < kb.length + 1) (hne : j ≠ i) : cutK kb i (j + 1) = cutK kb i j ++ nodC (kTree kb j) ∧ cutN i (j + 1) = cutN i j + 1 := by
  refine ⟨?_, by unfold cutN; split <;> split <;> omega⟩
  unfold cutK
  rw [if_neg (by omega), Nat.add_sub_cancel]
  cases j with
  | zero => rw [if_pos rfl, List.take_zero, List.eraseIdx_nil]; rfl
  | succ j =>
    rw [if_neg (by omega), Nat.add_sub_cancel, List.take_succ_eq_append_getElem (show j < kb.length by omega)]
    have e : (kb.take j ++ [kb[j]]).eraseIdx (i - 1) = (kb.take j).eraseIdx (i - 1) ++ [kb[j]] := by
      have hl : (kb.take j).length = j := by rw [List.length_take]; omega
      by_cases h : i - 1 < j
      · rw [List.eraseIdx_append_of_lt_length (by omega)]
      · rw [List.eraseIdx_of_length_le (by rw [List.length_append, hl]; show j + 1 ≤ _; omega), List.eraseIdx_of_length_le (by omega)]
    rw [e, keyCells_snoc, kTree_succ, getD_lt (show j < kb.length by omega)]
    rfl
theorem cutK_skip {kb : List Int} {i : Nat} (hi : 1 ≤ i) (hil : i ≤ kb.length) : cutK kb i (i + 1) = cutK kb i i ∧ cutN i (i + 1) = cutN i i := by
  refine ⟨?_, by unfold cutN; split <;> split <;> omega⟩
  unfold cutK
  rw [if_neg (by omega), if_neg (by omega), Nat.add_sub_cancel]
  obtain ⟨m, rfl⟩ : ∃ m, i = m + 1 := ⟨i - 1, by omega⟩
  have hl : (kb.take m).length = m := by rw [List.length_take]; omega
  rw [Nat.add_sub_cancel, List.take_succ_eq_append_getElem (show m < kb.length by omega), List.eraseIdx_append_of_length_le (by omega), hl, Nat.sub_self, List.eraseIdx_of_length_le (l := kb.take m) (by omega)]
  simp
theorem cutK_end {kb : List Int} {i : Nat} (hil : i ≤ kb.length) : cutK kb i (kb.length + 1) = keyCells (kb.eraseIdx (i - 1)) ∧ cutN i (kb.length + 1) = kb.length := by
  unfold cutK cutN
  rw [if_neg (by omega), Nat.add_sub_cancel, List.take_length, if_pos (by omega)]
  exact ⟨rfl, rfl⟩
def keyC (k : Int) : List Value := [.int .i64 1, .string ⟨#[108, 105]⟩, .int .i64 k, .slice none 0 0, .string ⟨#[]⟩]
theorem keyCells_cut (ks : List Int) (k : Nat) (hk : k ≤ ks.length) : (keyCells ks).take ((k + 1) * 5) = keyCells (ks.take k) ∧ (keyCells ks).drop ((k + 1) * 5) = (ks.drop k).flatMap keyC := by
  have e : keyCells ks = keyCells (ks.take k) ++ (ks.drop k).flatMap keyC := by
    have : ks.flatMap keyC = (ks.take k).flatMap keyC ++ (ks.drop k).flatMap keyC := by rw [← List.flatMap_append, List.take_append_drop]
    unfold keyCells
    rw [List.append_assoc]
    exact congrArg _ this
  have hl : (keyCells (ks.take k)).length = (k + 1) * 5 := by rw [keyCells_length, List.length_take, Nat.min_eq_left hk]
  rw [e]
  exact ⟨by rw [← hl, List.take_left], by rw [← hl, List.drop_left]⟩
theorem keyCells_app (ks ms : List Int) : keyCells (ks ++ ms) = keyCells ks ++ ms.flatMap keyC := by
  unfold keyCells
  rw [List.flatMap_append, ← List.append_assoc]
  rfl
end Go.Proofs.Ytobgcaemnpkbmaa
namespace Go.Proofs.Ytobgcaemnpkbmaa
open Go.RowKit
structure MvAt (W w : World) (db : Nat) (ka kb : List Int) (nA nB : Nat) (R : List RN) (last : Int) (P : List Pat) (ga gb gi : Nat) (pa : Option Addr) : Prop where
  st : St W w db (kTree kb) nB R last
  last : last ≤ 1000
  la : ga < w.heap.size
  lb : gb < w.heap.size
  li : gi < w.heap.size
  ca : ∀ k, 1 ≤ k → k < nA → w.cell? ⟨ga, k * 5 + 2, none⟩ = some (.int .i64 (ka.getD (k - 1) 0))
  cb : ∀ i, i < nB → ∀ r, r < 5 → w.cell? ⟨gb, i * 5 + r, none⟩ = (nodC (kTree kb i))[r]?
  ci : ∀ i, 1 ≤ i → i < nB → w.cell? ⟨gi, i, none⟩ = some (.int .i64 ((niOf R 1).kids.getD (i - 1) 0))
  cp : 0 < P.length → ∃ gp, pa = some ⟨gp, 0, none⟩ ∧ gp < w.heap.size ∧ ∀ i, (h : i < P.length) → w.cell? ⟨gp, i * 8, none⟩ = some (.int .i64 P[i].kind)
theorem MvAt.below {W w w' : World} {db : Nat} {ka kb : List Int} {nA nB : Nat} {R : List RN} {last : Int} {P : List Pat} {ga gb gi : Nat} {pa : Option Addr} (h : MvAt W w db ka kb nA nB R last P ga gb gi pa) (hb : Below w.heap.size w w') : MvAt W w' db ka kb nA nB R last P ga gb gi pa where
  st := h.st.below hb
  last := h.last
  la := Nat.lt_of_lt_of_le h.la hb.size
  lb := Nat.lt_of_lt_of_le h.lb hb.size
  li := Nat.lt_of_lt_of_le h.li hb.size
  ca := fun k h1 h2 => (hb.cell (p := ⟨ga, _, none⟩) h.la).trans (h.ca k h1 h2)
  cb := fun i h1 r h2 => (hb.cell (p := ⟨gb, _, none⟩) h.lb).trans (h.cb i h1 r h2)
  ci := fun i h1 h2 => (hb.cell (p := ⟨gi, _, none⟩) h.li).trans (h.ci i h1 h2)
  cp := fun h0 => by
    obtain ⟨gp, e, l, c⟩ := h.cp h0
    exact ⟨gp, e, Nat.lt_of_lt_of_le l hb.size, fun i hi => (hb.cell (p := ⟨gp, _, none⟩) l).trans (c i hi)⟩
theorem mv_new {ka : List Int} (hk : KeysOk ka) (h60 : ka.length ≤ 60) {nA : Nat} (hA : nA = ka.length + 1) (w : World) (B ga ca : Nat) (h : w.ownsRow B 28 5 (.slice (some ⟨ga, 0, none⟩) nA ca) nA (keyCells ka)) :
    Calls Try.prog 14 #[.slice (some ⟨ga, 0, none⟩) nA ca] w fun e w' => ∃ db, e = .returned (.tuple #[.pointer (some ⟨db, 0, none⟩), .int .i64 0, .int .i64 0]) ∧ St w w' db (kTree ka) nA (madeR (kTree ka) nA) nA := by
  subst hA
  have hz : (checkOut (mayB (kTree ka)) (ka.length + 1)).1 = 0 := by
    have hR : (madeR (kTree ka) (ka.length + 1)).length ≤ 61 := by rw [madeR_length]; omega
    rw [(keys_taken (made_is (n := ka.length + 1) (by omega) (kTree_may hk)) hR hk h60).1]
  exact st_new w w (Below.refl _ _) ga 0 (ka.length + 1) ca (kTree ka) (by unfold maxLen; omega) (keys_list h rfl).1 hz (kTree_i64 hk)
theorem mv_diff {kc ks : List Int} (hk : KeysOk ks) (h60 : kc.length ≤ 60) (hs60 : ks.length ≤ 60) {nA nB : Nat} (hA : nA = kc.length + 1) (hB : nB = ks.length + 1) (W w : World) (db : Nat) (R : List RN) (last : Int) (hl : last ≤ 1000) (h : St W w db (kTree kc) nA R last) (B gb cb : Nat) (hr : w.ownsRow B 28 5 (.slice (some ⟨gb, 0, none⟩) nB cb) nB (keyCells ks)) :
    Calls Try.prog 20 #[.pointer (some ⟨db, 0, none⟩), .slice (some ⟨gb, 0, none⟩) nB cb] w fun e w' => ∃ pa pc, e = .returned (.tuple #[.slice pa (diffP R last (kTree ks) nB).length pc, .int .i64 0, .int .i64 0]) ∧ w'.ownsRow w.heap.size 43 8 (.slice pa (diffP R last (kTree ks) nB).length pc) (diffP R last (kTree ks) nB).length (patsL (diffP R last (kTree ks) nB)) ∧ Below w.heap.size w w' := by
  subst hA hB
  obtain ⟨g1, g2, g3⟩ := h.len
  obtain ⟨e1, e2, _⟩ := keys_list hr rfl
  exact st_diffW W w db _ _ R last h (by omega) _ _ cb (kTree ks) (by unfold maxLen; omega) e2 e1 (kTree_i64 hk) _ (keys_taken g3 (by omega) hk hs60).2 rfl
theorem mv_apply {ka kb : List Int} (hka : KeysOk ka) (hkb : KeysOk kb) (ha60 : ka.length ≤ 60) (hb60 : kb.length ≤ 60) {nA nB : Nat} (hA : nA = ka.length + 1) (hB : nB = kb.length + 1) (W w0 w : World) (db : Nat) (h : St W w0 db (kTree ka) nA (madeR (kTree ka) nA) nA) (hb : Below w0.heap.size w0 w) (P : List Pat) (hP : diffP (madeR (kTree ka) nA) nA (kTree kb) nB = P) (pa : Option Addr) (pc : Nat) (hrow : w.ownsRow w0.heap.size 43 8 (.slice pa P.length pc) P.length (patsL P)) :
    Calls Try.prog 15 #[.pointer (some ⟨db, 0, none⟩), .slice pa P.length pc] w fun e w' => e = .returned (.tuple #[.int .i64 0, .int .i64 0]) ∧ w'.ownsRow w0.heap.size 43 8 (.slice pa P.length pc) P.length (patsL P) ∧ ∃ R' last', St W w' db (kTree kb) nB R' last' ∧ last' ≤ 1000 ∧ ∀ k, k < kb.length → kb.getD k 0 ∈ ka → (niOf R' 1).kids.getD k 0 = posK ka (kb.getD k 0) + 2 := by
  subst hA hB hP
  obtain ⟨e1, e2⟩ := h.len.2.2.root
  refine (st_applyK W w0 w db _ _ _ _ h hb (by omega) (kTree kb) (kb.length + 1) (by omega) (by omega) (kTree_may hkb) (kTree_i64 hkb) e1 e2 pa pc hrow).mono ?_
  rintro e w' ⟨rfl, r1, R', last', s1, s2, s3⟩
  exact ⟨rfl, r1, R', last', s1, by omega, fun k hk hm => kid_was hka hkb s3 hk hm⟩
theorem mv_first {ka kb : List Int} (hka : KeysOk ka) (hkb : KeysOk kb) (ha60 : ka.length ≤ 60) (hb60 : kb.length ≤ 60) {nA nB : Nat} (hA : nA = ka.length + 1) (hB : nB = kb.length + 1) (P : List Pat) (hP : diffP (madeR (kTree ka) nA) nA (kTree kb) nB = P) : P.length + kb.length = ka.length + 2 * cameK ka kb + kindN 2 P ∧ cameK ka kb ≤ kindN 2 P ∧ P.length ≤ 100000 := by
  subst hA hB hP
  have his := made_is (n := ka.length + 1) (by omega) (kTree_may hka)
  obtain ⟨h1, h2⟩ := moved_first his hka.nodup hkb.nodup
  refine ⟨h1, h2, ?_⟩
  have hlen : (madeR (kTree ka) (ka.length + 1)).length = ka.length + 1 := madeR_length _ _
  have hsm := niOf_small (R := madeR (kTree ka) (ka.length + 1)) (by omega) his.ats
  have hPl := (bringP_few (L := kTree kb) hsm (kb.length + 1) 1 (niOf (madeR (kTree ka) (ka.length + 1)) 1) 0 (kb.length + 1) ((ka.length + 1 : Nat) : Int) (hsm 1).1 (hsm 1).2 (by omega) (Nat.le_refl _) (fun i hi => by rw [Nat.zero_add]; exact (el_attr (may_node (kTree_may hkb i hi))).1)).1
  have hPl : (diffP (madeR (kTree ka) (ka.length + 1)) ((ka.length + 1 : Nat) : Int) (kTree kb) (kb.length + 1)).length + 2 ≤ 1020 * (kb.length + 1) := hPl
  omega
theorem IntsIn.below {w w' : World} {ao : Option Addr} {n : Nat} {l : Nat → Int} (h : IntsIn w ao n l) (hb : Below w.heap.size w w') : IntsIn w' ao n l := fun h0 => by
  obtain ⟨b, o, e, hl, hc⟩ := h h0
  exact ⟨b, o, e, Nat.lt_of_lt_of_le hl hb.size, fun j hj => ⟨(hb.cell (p := ⟨b, _, none⟩) hl).trans (hc j hj).1, (hc j hj).2⟩⟩
theorem keys_at {w : World} {B n : Nat} {q : Value} {xs : List Value} (h : w.ownsRow B 28 5 q (n + 1) xs) : ∃ g c, q = .slice (some ⟨g, 0, none⟩) (n + 1) c := by
  rcases h.2 with ⟨_, e0⟩ | ⟨g, cap, cur, e, _⟩
  · omega
  · exact ⟨g, cap, e⟩
theorem wasTo_hit {ka : List Int} {key : Int} {k : Nat} (h1 : 1 ≤ k) (h : (ka.getD (k - 1) 0 == key) = true) : wasTo ka key k = (k : Int) := by
  obtain ⟨m, rfl⟩ : ∃ m, k = m + 1 := ⟨k - 1, by omega⟩
  rw [Nat.add_sub_cancel] at h
  rw [wasTo, if_pos (by simpa using h)]
  rfl
theorem wasTo_miss {ka : List Int} {key : Int} {k : Nat} (h1 : 1 ≤ k) (h : (ka.getD (k - 1) 0 == key) = false) : wasTo ka key k = wasTo ka key (k - 1) := by
  obtain ⟨m, rfl⟩ : ∃ m, k = m + 1 := ⟨k - 1, by omega⟩
  rw [Nat.add_sub_cancel] at h ⊢
  rw [wasTo, if_neg (by simpa using h)]
theorem kTree_key {ks : List Int} {i : Nat} (h : 1 ≤ i) : (nodC (kTree ks i))[2]? = some (.int .i64 (ks.getD (i - 1) 0)) := by
  obtain ⟨m, rfl⟩ : ∃ m, i = m + 1 := ⟨i - 1, by omega⟩
  rw [kTree_succ]
  rfl
theorem came_le (ka kb : List Int) : cameK ka kb ≤ kb.length := List.countP_le_length
theorem kind_le (j : Int) (P : List Pat) : kindN j P ≤ P.length := List.countP_le_length
theorem mv_ids {ka kb : List Int} {nA nB : Nat} (hA : nA = ka.length + 1) (hB : nB = kb.length + 1) (W w : World) (db : Nat) (R : List RN) (last : Int) (hl : last ≤ 1000) (h : St W w db (kTree kb) nB R last) (Ba ga ca : Nat) (ra : W.ownsRow Ba 28 5 (.slice (some ⟨ga, 0, none⟩) nA ca) nA (keyCells ka)) (Bb gb cb : Nat) (rb : W.ownsRow Bb 28 5 (.slice (some ⟨gb, 0, none⟩) nB cb) nB (keyCells kb)) (Bp : Nat) (P : List Pat) (pa : Option Addr) (pc : Nat) (rp : w.ownsRow Bp 43 8 (.slice pa P.length pc) P.length (patsL P)) :
    Calls Try.prog 16 #[.pointer (some ⟨db, 0, none⟩)] w fun e w' => ∃ gi c, e = .returned (.slice (some ⟨gi, 0, none⟩) nB c) ∧ MvAt W w' db ka kb nA nB R last P ga gb gi pa := by
  refine (st_idsK W w db (kTree kb) nB (by rw [hB]; exact kTree_flat kb) R last h).mono ?_
  rintro e w' ⟨gi, c, rfl, h1, h2, h3⟩
  have hW : Below W.heap.size W w' := h.bel.trans (h3.mono h.bel.size)
  have ra' := ownsRow_below ra hW
  have rb' := ownsRow_below rb hW
  have rp' := ownsRow_below rp h3
  obtain ⟨_, _, _, ea, la⟩ := keys_list ra' hA
  obtain ⟨_, _, _, eb, lb⟩ := keys_list rb' hB
  cases ea
  cases eb
  refine ⟨gi, c, rfl, h.below h3, hl, la, lb, h1, fun k k1 k2 => ?_, fun i hi r hr => ?_, fun i i1 i2 => ?_, fun h0 => ?_⟩
  · have := keyCells_key ka (k - 1) (by omega)
    rw [show k - 1 + 1 = k by omega] at this
    rw [ra'.cellAt (k * 5 + 2) (by omega), this]
  · rw [rb'.cellAt (i * 5 + r) (by omega), keyCells_get kb i r (by omega) hr]
  · obtain ⟨m, rfl⟩ : ∃ m, i = m + 1 := ⟨i - 1, by omega⟩
    rw [h2 (m + 1) i2]
    rfl
  · obtain ⟨b, o, e, hl, hc⟩ := pats_row rp' rfl h0
    rcases rp'.2 with ⟨_, e0⟩ | ⟨g, cap, cur, e2, _⟩
    · omega
    · simp at e2
      obtain ⟨rfl, rfl⟩ := e2
      cases e
      refine ⟨_, rfl, hl, fun i hi => ?_⟩
      have := hc (i * 8) (by omega)
      rw [Nat.zero_add] at this
      rw [this]
      have e3 := patsCell_at (patAt P) i 0 (by omega)
      rw [Nat.add_zero] at e3
      rw [e3]
      unfold patAt
      rw [List.getD_eq_getElem?_getD, List.getElem?_eq_getElem hi]
      rfl
theorem keys_at' {w : World} {B n : Nat} {q : Value} {xs : List Value} (h : w.ownsRow B 28 5 q n xs) (h0 : 0 < n) : ∃ g c, q = .slice (some ⟨g, 0, none⟩) n c ∧ n ≤ c ∧ g < w.heap.size := by
  rcases h.2 with ⟨_, e0⟩ | ⟨g, cap, cur, e, _, hg, hc, _⟩
  · omega
  · exact ⟨g, cap, e, hc, (Array.getElem?_eq_some_iff.1 hg).1⟩
theorem keyC_one (ms : List Int) : ∀ u ∈ ms.flatMap keyC, u.oneCell' = true := fun u hu => by
  obtain ⟨k, _, h⟩ := List.mem_flatMap.1 hu
  unfold keyC at h
  simp only [List.mem_cons, List.not_mem_nil, or_false] at h
  rcases h with rfl | rfl | rfl | rfl | rfl <;> rfl
theorem keyCells_one (ks : List Int) : ∀ u ∈ keyCells ks, u.oneCell' = true := fun u hu => by
  have e : keyCells ks = keyCells [] ++ ks.flatMap keyC := keyCells_app [] ks
  rw [e] at hu
  rcases List.mem_append.1 hu with h | h
  · simp only [keyCells, List.flatMap_nil, List.append_nil, List.mem_cons, List.not_mem_nil, or_false] at h
    rcases h with rfl | rfl | rfl | rfl | rfl <;> rfl
  · exact keyC_one ks u h
theorem keyC_length (ms : List Int) : (ms.flatMap keyC).length = ms.length * 5 := by
  have h := keyCells_app [] ms
  have h2 := congrArg List.length h
  rw [List.length_append, keyCells_length, keyCells_length, List.nil_append] at h2
  simp only [List.length_nil] at h2
  omega
theorem news_head {w : World} {gc : Nat} {E : List Int} {k : Nat} (hc : ∀ j, j < (E.length + 1) * 5 → w.cell? ⟨gc, j, none⟩ = (keyCells E)[j]?) (hk : 1 ≤ k) (hk2 : k ≤ E.length + 1) : (keyCells (E.take (k - 1))).length = k * 5 ∧ ∀ a, some (⟨gc, 0, none⟩ : Addr) = some a → ∀ j u, (keyCells (E.take (k - 1)))[j]? = some u → w.cell? (a.add j) = some u := by
  have hcut := (keyCells_cut E (k - 1) (by omega)).1
  rw [show k - 1 + 1 = k by omega] at hcut
  have hl : (keyCells (E.take (k - 1))).length = k * 5 := by rw [keyCells_length, List.length_take]; omega
  refine ⟨hl, fun a ea j u hu => ?_⟩
  cases ea
  have hj : j < k * 5 := by rw [← hl]; exact (List.getElem?_eq_some_iff.1 hu).1
  rw [← hcut, List.getElem?_take_of_lt hj] at hu
  rw [addr_add', Nat.zero_add, hc j (by omega), hu]
theorem news_tail {w : World} {gc : Nat} {E : List Int} {k : Nat} (hc : ∀ j, j < (E.length + 1) * 5 → w.cell? ⟨gc, j, none⟩ = (keyCells E)[j]?) (hk : 1 ≤ k) (hk2 : k ≤ E.length + 1) : ((E.drop (k - 1)).flatMap keyC).length = (E.length + 1 - k) * 5 ∧ ∀ a, some (⟨gc, k * 5, none⟩ : Addr) = some a → ∀ j u, ((E.drop (k - 1)).flatMap keyC)[j]? = some u → w.cell? (a.add j) = some u := by
  have hcut := (keyCells_cut E (k - 1) (by omega)).2
  rw [show k - 1 + 1 = k by omega] at hcut
  have hl : ((E.drop (k - 1)).flatMap keyC).length = (E.length + 1 - k) * 5 := by rw [keyC_length, List.length_drop]; omega
  refine ⟨hl, fun a ea j u hu => ?_⟩
  cases ea
  have hj : j < (E.length + 1 - k) * 5 := by rw [← hl]; exact (List.getElem?_eq_some_iff.1 hu).1
  rw [← hcut, List.getElem?_drop] at hu
  rw [addr_add', hc (k * 5 + j) (by omega), hu]
theorem move_cells (kb : List Int) {i k : Nat} (hi : 1 ≤ i) : [] ++ keyCells ((kb.eraseIdx (i - 1)).take k) ++ nodC (kTree kb i) ++ ((kb.eraseIdx (i - 1)).drop k).flatMap keyC = keyCells (kMove kb (i - 1) k) := by
  unfold kMove
  rw [keyCells_app, List.flatMap_append, List.nil_append, List.append_assoc]
  obtain ⟨m, rfl⟩ : ∃ m, i = m + 1 := ⟨i - 1, by omega⟩
  rw [kTree_succ, Nat.add_sub_cancel]
  rfl
theorem mv_second {kb : List Int} (hk : KeysOk kb) (h60 : kb.length ≤ 60) {nB : Nat} (hB : nB = kb.length + 1) (W w : World) (db : Nat) (R : List RN) (last : Int) (hl : last ≤ 1000) (h : St W w db (kTree kb) nB R last) {i k : Nat} (hi : i < kb.length) (hk2 : k < kb.length) (N2 : Nat) (hN2 : N2 = if i = k then 0 else 1) (B gb cb : Nat) (hr : w.ownsRow B 28 5 (.slice (some ⟨gb, 0, none⟩) nB cb) nB (keyCells (kMove kb i k))) :
    Calls Try.prog 20 #[.pointer (some ⟨db, 0, none⟩), .slice (some ⟨gb, 0, none⟩) nB cb] w fun e w' => ∃ pa pc, e = .returned (.tuple #[.slice pa N2 pc, .int .i64 0, .int .i64 0]) ∧ Below w.heap.size w w' := by
  have hml := kMove_length hi hk2
  obtain ⟨g1, g2, g3⟩ := h.len
  refine (mv_diff (kMove_ok hk hi hk2) h60 (by omega) hB (by omega) W w db R last hl h B gb cb hr).mono ?_
  rintro e w' ⟨pa, pc, rfl, _, hb⟩
  subst hB
  have := moved_second g3 g1 h60 hk hi hk2
  rw [this, ← hN2]
  exact ⟨pa, pc, rfl, hb⟩
end Go.Proofs.Ytobgcaemnpkbmaa
