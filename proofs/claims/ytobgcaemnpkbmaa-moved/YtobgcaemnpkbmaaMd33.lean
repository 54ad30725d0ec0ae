/- Fx Fy Fz Ga -/
import Derived.Test.YtobgcaemnpkbmaaMd32
namespace Go.Proofs.Ytobgcaemnpkbmaa
open Go.RowKit
def befOf (kids : List Int) : List Int → Int
  | [] => 0
  | k :: _ => kids.getD k.toNat 0
theorem kidStep_stay {br : Br} {T : Int → NI} {L : Nat → Nod} {id : Int} {kids : List Int} {s : Nat} {q : KS} {a : Nat × Nat} {p : Int} (h : q.stay.head? = some p) :
    kidStep br T L id kids s q a p = ⟨q.pats ++ (br (kids.getD p.toNat 0) (T (kids.getD p.toNat 0)) (s + a.1) (a.2 - a.1) q.last).1, q.stay.tail, (br (kids.getD p.toNat 0) (T (kids.getD p.toNat 0)) (s + a.1) (a.2 - a.1) q.last).2⟩ := by
  unfold kidStep
  rw [decide_eq_true h]
  rfl
theorem kidStep_new {br : Br} {T : Int → NI} {L : Nat → Nod} {id : Int} {kids : List Int} {s : Nat} {q : KS} {a : Nat × Nat} {p : Int} (h : q.stay.head? ≠ some p) (hp : p = -1) :
    kidStep br T L id kids s q a p = ⟨q.pats ++ [⟨1, q.last + 1, 0, 0, (L (s + a.1)).k, (L (s + a.1)).t, ⟨#[]⟩, (L (s + a.1)).x⟩] ++ [⟨2, q.last + 1, id, befOf kids q.stay, 0, ⟨#[]⟩, ⟨#[]⟩, ⟨#[]⟩⟩] ++ (br (q.last + 1) ⟨(L (s + a.1)).k, (L (s + a.1)).t, (L (s + a.1)).x, [], []⟩ (s + a.1) (a.2 - a.1) (q.last + 1)).1, q.stay, (br (q.last + 1) ⟨(L (s + a.1)).k, (L (s + a.1)).t, (L (s + a.1)).x, [], []⟩ (s + a.1) (a.2 - a.1) (q.last + 1)).2⟩ := by
  unfold kidStep
  rw [decide_eq_false h, show (p == -1) = true by rw [hp]; rfl]
  simp only [cond_false, cond_true]
  cases q.stay <;> rfl
theorem kidStep_move {br : Br} {T : Int → NI} {L : Nat → Nod} {id : Int} {kids : List Int} {s : Nat} {q : KS} {a : Nat × Nat} {p : Int} (h : q.stay.head? ≠ some p) (hp : p ≠ -1) :
    kidStep br T L id kids s q a p = ⟨q.pats ++ [⟨2, kids.getD p.toNat 0, id, befOf kids q.stay, 0, ⟨#[]⟩, ⟨#[]⟩, ⟨#[]⟩⟩] ++ (br (kids.getD p.toNat 0) (T (kids.getD p.toNat 0)) (s + a.1) (a.2 - a.1) q.last).1, q.stay, (br (kids.getD p.toNat 0) (T (kids.getD p.toNat 0)) (s + a.1) (a.2 - a.1) q.last).2⟩ := by
  unfold kidStep
  rw [decide_eq_false h, show (p == -1) = false from beq_eq_false_iff_ne.2 hp]
  simp only [cond_false]
  cases q.stay <;> rfl
theorem kidStep_sub (br : Br) (T : Int → NI) (L : Nat → Nod) (id : Int) (kids : List Int) (s : Nat) (q : KS) (a : Nat × Nat) (p : Int) : ∀ y, y ∈ (kidStep br T L id kids s q a p).stay → y ∈ q.stay := by
  intro y hy
  by_cases h : q.stay.head? = some p
  · rw [kidStep_stay h] at hy
    exact List.mem_of_mem_tail hy
  · by_cases hp : p = -1
    · rw [kidStep_new h hp] at hy; exact hy
    · rw [kidStep_move h hp] at hy; exact hy
theorem kidsDone_sub (br : Br) (T : Int → NI) (L : Nat → Nod) (id : Int) (kids : List Int) (s : Nat) (ps : List (Nat × Nat)) (pr : List Int) (q : KS) : ∀ k y, y ∈ (kidsDone br T L id kids s ps pr q k).stay → y ∈ q.stay
  | 0, _, h => h
  | k + 1, y, h => kidsDone_sub br T L id kids s ps pr q k y (kidStep_sub br T L id kids s _ _ _ y h)
end Go.Proofs.Ytobgcaemnpkbmaa
namespace Go.Proofs.Ytobgcaemnpkbmaa
open Go.RowKit
def sizeTo (ps : List (Nat × Nat)) : Nat → Nat
  | 0 => 0
  | k + 1 => sizeTo ps k + ((ps.getD k (0, 0)).2 - (ps.getD k (0, 0)).1)
theorem sizeTo_app (ps : List (Nat × Nat)) (a : Nat × Nat) : ∀ k, k ≤ ps.length → sizeTo (ps ++ [a]) k = sizeTo ps k
  | 0, _ => rfl
  | k + 1, h => by
    rw [sizeTo, sizeTo, sizeTo_app ps a k (by omega)]
    have : (ps ++ [a]).getD k (0, 0) = ps.getD k (0, 0) := by
      rw [List.getD_eq_getElem?_getD, List.getD_eq_getElem?_getD, List.getElem?_append_left (by omega)]
    rw [this]
theorem sizeTo_parts (D : Nat → Int) (n : Nat) : ∀ k, sizeTo (partsTo D n k).1 (partsTo D n k).1.length + 1 = (partsTo D n k).2
  | 0 => rfl
  | k + 1 => by
    have ih := sizeTo_parts D n k
    have hs := partsTo_start D n k
    cases hc : cutB D n (k + 2) with
    | true =>
      rw [partsTo_yes hc]
      show sizeTo ((partsTo D n k).1 ++ [((partsTo D n k).2, k + 2)]) ((partsTo D n k).1 ++ [((partsTo D n k).2, k + 2)]).length + 1 = k + 2
      rw [List.length_append]
      show sizeTo _ ((partsTo D n k).1.length + 1) + 1 = k + 2
      rw [sizeTo, sizeTo_app _ _ _ (Nat.le_refl _)]
      have : ((partsTo D n k).1 ++ [((partsTo D n k).2, k + 2)]).getD (partsTo D n k).1.length (0, 0) = ((partsTo D n k).2, k + 2) := by
        rw [List.getD_eq_getElem?_getD, List.getElem?_append_right (Nat.le_refl _)]
        simp
      rw [this]
      show sizeTo _ _ + (k + 2 - (partsTo D n k).2) + 1 = k + 2
      omega
    | false =>
      rw [partsTo_no hc]
      exact ih
theorem sizeTo_mono (ps : List (Nat × Nat)) (k : Nat) : ∀ j, sizeTo ps k ≤ sizeTo ps (k + j)
  | 0 => Nat.le_refl _
  | j + 1 => Nat.le_trans (sizeTo_mono ps k j) (Nat.le_add_right _ _)
theorem sizeTo_lt (D : Nat → Int) {n : Nat} (hn : 1 ≤ n) {k : Nat} (hk : k ≤ (partsP D n).length) : sizeTo (partsP D n) k + 1 ≤ n := by
  have h1 := sizeTo_parts D n (n - 1)
  have h2 := partsTo_start D n (n - 1)
  obtain ⟨j, e⟩ := Nat.exists_eq_add_of_le hk
  have h3 := sizeTo_mono (partsP D n) k j
  rw [← e] at h3
  have h4 : sizeTo (partsP D n) (partsP D n).length + 1 = (partsTo D n (n - 1)).2 := h1
  omega
end Go.Proofs.Ytobgcaemnpkbmaa
namespace Go.Proofs.Ytobgcaemnpkbmaa
open Go.RowKit
def BrFew (br : Br) (L : Nat → Nod) (f : Nat) : Prop := ∀ (id : Int) (x : NI) (s n : Nat) (last : Int), x.kids.length ≤ 1000 → x.ats.length ≤ 5 → 1 ≤ n → n ≤ f → (∀ i, i < n → (L (s + i)).an ≤ 5) → (br id x s n last).1.length + 2 ≤ 1020 * n ∧ last ≤ (br id x s n last).2 ∧ (br id x s n last).2 + 1 ≤ last + n
theorem kidsDone_few {br : Br} {T : Int → NI} {L : Nat → Nod} {f : Nat} (hbr : BrFew br L f) (hT : ∀ i, (T i).kids.length ≤ 1000 ∧ (T i).ats.length ≤ 5) (id : Int) (kids : List Int) (s n : Nat) (hn : n ≤ f + 1) (hL : ∀ i, i < n → (L (s + i)).an ≤ 5) (ps : List (Nat × Nat)) (hps : ∀ a, a ∈ ps → 1 ≤ a.1 ∧ a.1 < a.2 ∧ a.2 ≤ n) (pr : List Int) (q : KS) :
    ∀ k, k ≤ ps.length → (kidsDone br T L id kids s ps pr q k).pats.length ≤ q.pats.length + 1020 * sizeTo ps k ∧ q.last ≤ (kidsDone br T L id kids s ps pr q k).last ∧ (kidsDone br T L id kids s ps pr q k).last ≤ q.last + sizeTo ps k
  | 0, _ => ⟨by simp [kidsDone, sizeTo], by simp [kidsDone], by simp [kidsDone, sizeTo]⟩
  | k + 1, hk => by
    obtain ⟨h1, h2, h3⟩ := kidsDone_few hbr hT id kids s n hn hL ps hps pr q k (by omega)
    have hm : ps.getD k (0, 0) ∈ ps := by rw [List.getD_eq_getElem?_getD, List.getElem?_eq_getElem (by omega)]; exact List.getElem_mem _
    obtain ⟨s1, s2, s3⟩ := hps _ hm
    rw [kidsDone, sizeTo]
    generalize kidsDone br T L id kids s ps pr q k = c at *
    generalize ps.getD k (0, 0) = a at *
    generalize pr.getD k 0 = p at *
    have hL' : ∀ i, i < a.2 - a.1 → (L (s + a.1 + i)).an ≤ 5 := fun i hi => by rw [Nat.add_assoc]; exact hL _ (by omega)
    have hT' := hT (kids.getD p.toNat 0)
    have hb := hbr (kids.getD p.toNat 0) (T (kids.getD p.toNat 0)) (s + a.1) (a.2 - a.1) c.last hT'.1 hT'.2 (by omega) (by omega) hL'
    have hb2 := hbr (c.last + 1) ⟨(L (s + a.1)).k, (L (s + a.1)).t, (L (s + a.1)).x, [], []⟩ (s + a.1) (a.2 - a.1) (c.last + 1) (Nat.zero_le _) (Nat.zero_le _) (by omega) (by omega) hL'
    by_cases hs : c.stay.head? = some p
    · rw [kidStep_stay hs]
      simp only [List.length_append]
      omega
    · by_cases hp : p = -1
      · rw [kidStep_new hs hp]
        simp only [List.length_append, List.length_cons, List.length_nil]
        omega
      · rw [kidStep_move hs hp]
        simp only [List.length_append, List.length_cons, List.length_nil]
        omega
theorem bringP_few {T : Int → NI} {L : Nat → Nod} (hT : ∀ i, (T i).kids.length ≤ 1000 ∧ (T i).ats.length ≤ 5) : ∀ f, BrFew (bringP T L f) L f
  | 0 => fun _ _ _ _ _ _ _ h1 h2 _ => by omega
  | f + 1 => fun id x s n last hk ha hn hf hL => by
    have hx := textP_length id x (L s)
    have h1 := unsP_length id (nmOf x.ats) (L s).nm (L s).an x.ats.length
    have h2 := setsP_length id (nmOf x.ats) (vlOf x.ats) x.ats.length (L s).nm (L s).vl (L s).an
    have h3 := hL 0 hn
    have h4 := remsP_length (fun j => x.kids.getD j 0) (pairsOf T L x.kids s (partsOf L s n)) x.kids.length
    have h5 := kidsDone_few (bringP_few hT f) hT id x.kids s n hf hL (partsOf L s n) (fun a ha => partsP_span hn ha) (pairsOf T L x.kids s (partsOf L s n)) ⟨remsP (fun j => x.kids.getD j 0) (pairsOf T L x.kids s (partsOf L s n)) x.kids.length, stayOf (pairsOf T L x.kids s (partsOf L s n)), last⟩ (partsOf L s n).length (Nat.le_refl _)
    have h6 : sizeTo (partsOf L s n) (partsOf L s n).length + 1 ≤ n := sizeTo_lt _ hn (Nat.le_refl _)
    simp only [bringP, bringKidsP, attrsP, List.length_append] at *
    rw [Nat.add_zero] at h3
    omega
end Go.Proofs.Ytobgcaemnpkbmaa
namespace Go.Proofs.Ytobgcaemnpkbmaa
open Go.RowKit
def StayV (WB : Nat) (pv : Value) (w : World) (so : Option Addr) (l : List Int) : Prop := ∀ j, j < l.length → ∃ g o, so = some ⟨g, o, none⟩ ∧ Free WB pv w g ∧ w.cell? ⟨g, o + j, none⟩ = some (.int .i64 (l.getD j 0))
theorem StayV.tells {WB : Nat} {pv pv' : Value} {w w' : World} {so : Option Addr} {l : List Int} (h : StayV WB pv w so l) (k : Tells WB pv pv' w w') : StayV WB pv' w' so l := fun j hj => by
  obtain ⟨g, o, e, f, c⟩ := h j hj
  exact ⟨g, o, e, f.tells k, (f.cell k).trans c⟩
theorem StayV.head {WB : Nat} {pv : Value} {w : World} {so : Option Addr} {k : Int} {l : List Int} (h : StayV WB pv w so (k :: l)) : ∃ g o, so = some ⟨g, o, none⟩ ∧ Free WB pv w g ∧ w.cell? ⟨g, o, none⟩ = some (.int .i64 k) ∧ StayV WB pv w (some ⟨g, o + 1, none⟩) l := by
  obtain ⟨g, o, e, f, c⟩ := h 0 (by simp)
  refine ⟨g, o, e, f, by simpa using c, fun j hj => ?_⟩
  obtain ⟨g2, o2, e2, f2, c2⟩ := h (j + 1) (by simp; omega)
  rw [e] at e2
  cases e2
  refine ⟨g, o + 1, rfl, f, ?_⟩
  rw [show o + 1 + j = o + (j + 1) by omega, c2]
  simp
theorem StayV.of_row {WB : Nat} {pv : Value} {w : World} {C : Nat} {so : Option Addr} {n c : Nat} {l : List Int} (h : w.ownsRow C 3 1 (.slice so n c) n (ints l)) (hf : ∀ g, Value.ownBlock (.slice so n c) = some g → Free WB pv w g) : StayV WB pv w so l := fun j hj => by
  have hl : (ints l).length = n := by have := h.1; omega
  have hl2 : l.length = n := by rw [← hl]; simp [ints]
  obtain ⟨g, hj2, e, hg, hc⟩ := row_at h (j := j) (by omega)
  refine ⟨g, 0, e, hf g (by rw [e]; rfl), ?_⟩
  rw [Nat.zero_add, hc, List.getD_eq_getElem?_getD, List.getElem?_eq_getElem hj]
  simp [ints]
theorem own_cap {w : World} {C : Nat} {e : TypeId} {size : Nat} {ao : Option Addr} {n c : Nat} {xs : List Value} (h : w.ownsRow C e size (.slice ao n c) n xs) : n ≤ c := by
  rcases h.2 with ⟨e1, e0⟩ | ⟨g, cap, cur, e1, _, _, h1, _⟩
  · omega
  · simp at e1
    omega
theorem PartV.sub {WB : Nat} {pv : Value} {w : World} {b o n s : Nat} {L : Nat → Nod} (h : PartV WB pv w b o n (fun i => L (s + i))) {a1 a2 : Nat} (h1 : a1 < a2) (h2 : a2 ≤ n) : PartV WB pv w b (o + a1 * 5) (a2 - a1) (fun i => L (s + a1 + i)) := by
  refine ⟨h.free, fun i hi => ?_, fun i hi => ?_⟩
  · have := h.node (a1 + i) (by omega)
    rw [show o + (a1 + i) * 5 = o + a1 * 5 + i * 5 by omega] at this
    rw [Nat.add_assoc s]
    exact this
  · rw [Nat.add_assoc s]
    exact h.attrs (a1 + i) (by omega)
theorem bring_kid {T : Int → NI} {nb : Int → Nat} {S : Int → Prop} {br : Br} {L : Nat → Nod} {f : Nat} (hbr : BringOk T nb S br L f) {B WB : Nat} {pv : Value} {w : World} (hB : B ≤ w.heap.size) (hT : TableV WB pv w nb S T)
    {b o s n c : Nat} (hf : n ≤ f + 1) (hc : n ≤ c) (_hn2 : n ≤ 1000) (hL : PartV WB pv w b o n (fun i => L (s + i))) (hs : ∀ i, i < n → (L (s + i)).Small) {a : Nat × Nat} (ha : 1 ≤ a.1 ∧ a.1 < a.2 ∧ a.2 ≤ n) {i : Int} (hi : S i)
    (pv' : Value) (w' : World) (P' : List Pat) (last' : Int) (hTl : Tells WB pv pv' w w') (hW : WayAt B w' WB pv' P' last') (hP : P'.length + 1020 * (a.2 - a.1) ≤ 800000) (hl0 : 0 ≤ last') (hl1 : last' + ((a.2 - a.1 : Nat) : Int) ≤ 4611686018427387904) :
    Calls Try.prog 41 #[.pointer (some ⟨WB, 0, none⟩), .pointer (some ⟨nb i, 0, none⟩), pieceV b o c a] w' (Told B WB pv' P' w' (br i (T i) (s + a.1) (a.2 - a.1) last')) :=
  hbr B WB pv' P' last' w' hW (Nat.le_trans hB hTl.touch.size) (hT.tells hTl) (nb i) i (T i) ((hT.tells hTl).node i hi) (hT.ok i hi) (hT.kids i hi) b (o + a.1 * 5) (s + a.1) (a.2 - a.1) (c - a.1) (by omega) (by omega) (by omega) (by omega) ((hL.tells hTl).sub ha.2.1 ha.2.2) (fun i hi => by rw [Nat.add_assoc]; exact hs _ (by omega)) hP hl0 hl1
theorem bring_made {T : Int → NI} {nb : Int → Nat} {S : Int → Prop} {br : Br} {L : Nat → Nod} {f : Nat} (hbr : BringOk T nb S br L f) {B WB : Nat} {pv : Value} {w : World} (hB : B ≤ w.heap.size) (hT : TableV WB pv w nb S T)
    {b o s n c : Nat} (hf : n ≤ f + 1) (hc : n ≤ c) (_hn2 : n ≤ 1000) (hL : PartV WB pv w b o n (fun i => L (s + i))) (hs : ∀ i, i < n → (L (s + i)).Small) {a : Nat × Nat} (ha : 1 ≤ a.1 ∧ a.1 < a.2 ∧ a.2 ≤ n)
    (pv' : Value) (w' : World) (P' : List Pat) (last' : Int) (hTl : Tells WB pv pv' w w') (hW : WayAt B w' WB pv' P' last') (hP : P'.length + 1020 * (a.2 - a.1) ≤ 800000) (hl0 : 0 ≤ last') (hl1 : last' + ((a.2 - a.1 : Nat) : Int) ≤ 4611686018427387904)
    (D : Nat) (i : Int) (hD : Free WB pv' w' D) (hd : w'.heap[D]? = some (.cells #[.int .i64 i, .int .i64 (L (s + a.1)).k, .string (L (s + a.1)).t, .string (L (s + a.1)).x, .slice none 0 0, .pointer none, .slice none 0 0] 79 (0, 0))) :
    Calls Try.prog 41 #[.pointer (some ⟨WB, 0, none⟩), .pointer (some ⟨D, 0, none⟩), pieceV b o c a] w' (Told B WB pv' P' w' (br i ⟨(L (s + a.1)).k, (L (s + a.1)).t, (L (s + a.1)).x, [], []⟩ (s + a.1) (a.2 - a.1) last')) :=
  hbr B WB pv' P' last' w' hW (Nat.le_trans hB hTl.touch.size) (hT.tells hTl) D i ⟨(L (s + a.1)).k, (L (s + a.1)).t, (L (s + a.1)).x, [], []⟩
    ⟨hD, cell_of_blk hd 0 _ rfl, cell_of_blk hd 1 _ rfl, cell_of_blk hd 2 _ rfl, cell_of_blk hd 3 _ rfl, ⟨none, 0, cell_of_blk hd 4 _ rfl, ⟨fun j hj => absurd hj (Nat.not_lt_zero _), fun h0 => absurd h0 (Nat.lt_irrefl _)⟩⟩, ⟨none, 0, cell_of_blk hd 6 _ rfl, fun j hj => absurd hj (Nat.not_lt_zero _)⟩⟩
    ⟨Nat.zero_le _, fun j hj => absurd hj (Nat.not_lt_zero _), by have := (hs a.1 (by omega)).tag; show (L (s + a.1)).t.size ≤ maxLen; unfold maxLen; omega, (hs a.1 (by omega)).key, Nat.zero_le _⟩
    (fun k hk => by cases hk) b (o + a.1 * 5) (s + a.1) (a.2 - a.1) (c - a.1) (by omega) (by omega) (by omega) (by omega) ((hL.tells hTl).sub ha.2.1 ha.2.2) (fun i hi => by rw [Nat.add_assoc]; exact hs _ (by omega)) hP hl0 hl1
theorem kids_bounds {T : Int → NI} {br : Br} {L : Nat → Nod} {f : Nat} (hfew : BrFew br L f) (hT : ∀ i, (T i).kids.length ≤ 1000 ∧ (T i).ats.length ≤ 5) (id : Int) {x : NI} (hx : x.kids.length ≤ 1000) {s n : Nat} (hn : 1 ≤ n) (hf : n ≤ f + 1) (hs : ∀ i, i < n → (L (s + i)).Small) {P : List Pat} {last : Int} (hP : P.length + 1020 * n ≤ 800011) (hl0 : 0 ≤ last) (hl1 : last + n ≤ 4611686018427387904) {ps : List (Nat × Nat)} (hps : partsOf L s n = ps) (pr : List Int) (k : Nat) (hk : k < ps.length) (K : KS)
    (hK : kidsDone br T L id x.kids s ps pr ⟨remsP (fun j => x.kids.getD j 0) pr x.kids.length, stayOf pr, last⟩ k = K) :
    (1 ≤ (ps.getD k (0, 0)).1 ∧ (ps.getD k (0, 0)).1 < (ps.getD k (0, 0)).2 ∧ (ps.getD k (0, 0)).2 ≤ n) ∧ (P ++ K.pats).length + 2 + 1020 * ((ps.getD k (0, 0)).2 - (ps.getD k (0, 0)).1) ≤ 800000 ∧ 0 ≤ K.last ∧ K.last + 1 + (((ps.getD k (0, 0)).2 - (ps.getD k (0, 0)).1 : Nat) : Int) ≤ 4611686018427387904 ∧ (∀ y, y ∈ K.stay → y ∈ stayOf pr) := by
  subst hps
  subst hK
  have h5 := kidsDone_few hfew hT id x.kids s n hf (fun i hi => (hs i hi).an) (partsOf L s n) (fun a ha => partsP_span hn ha) pr ⟨remsP (fun j => x.kids.getD j 0) pr x.kids.length, stayOf pr, last⟩ k (by omega)
  have h6 : sizeTo (partsOf L s n) (k + 1) + 1 ≤ n := sizeTo_lt _ hn (by exact hk)
  have h4 := remsP_length (fun j => x.kids.getD j 0) pr x.kids.length
  have hm : (partsOf L s n).getD k (0, 0) ∈ partsOf L s n := by rw [List.getD_eq_getElem?_getD, List.getElem?_eq_getElem hk]; exact List.getElem_mem _
  have h7 := kidsDone_sub br T L id x.kids s (partsOf L s n) pr ⟨remsP (fun j => x.kids.getD j 0) pr x.kids.length, stayOf pr, last⟩ k
  refine ⟨partsP_span hn hm, ?_, ?_, ?_, h7⟩
  · have := partsP_span hn hm
    rw [sizeTo] at h6
    rw [List.length_append]
    have := h5.1
    simp only at this
    omega
  · have := h5.2.1
    simp only at this
    omega
  · have := partsP_span hn hm
    rw [sizeTo] at h6
    have := h5.2.2
    simp only at this
    omega
end Go.Proofs.Ytobgcaemnpkbmaa
