/- Fr Fs Ft Fu Fw -/
import Derived.Test.YtobgcaemnpkbmaaMd27
import Derived.Test.YtobgcaemnpkbmaaMd29
import Derived.Test.YtobgcaemnpkbmaaMd28
import Derived.Test.YtobgcaemnpkbmaaMd31
namespace Go.Proofs.Ytobgcaemnpkbmaa
open Go.RowKit
structure NI where
  key : Int
  tag : ByteArray
  text : ByteArray
  ats : List (ByteArray × ByteArray)
  kids : List Int
structure KS where
  pats : List Pat
  stay : List Int
  last : Int
abbrev Br := Int → NI → Nat → Nat → Int → List Pat × Int
def kidStep (br : Br) (T : Int → NI) (L : Nat → Nod) (id : Int) (kids : List Int) (s : Nat) (q : KS) (a : Nat × Nat) (p : Int) : KS :=
  bif decide (q.stay.head? = some p) then
    let r := br (kids.getD p.toNat 0) (T (kids.getD p.toNat 0)) (s + a.1) (a.2 - a.1) q.last
    ⟨q.pats ++ r.1, q.stay.tail, r.2⟩
  else
    let bf := match q.stay with
      | [] => 0
      | k :: _ => kids.getD k.toNat 0
    bif p == -1 then
      let r := br (q.last + 1) ⟨(L (s + a.1)).k, (L (s + a.1)).t, (L (s + a.1)).x, [], []⟩ (s + a.1) (a.2 - a.1) (q.last + 1)
      ⟨q.pats ++ [⟨1, q.last + 1, 0, 0, (L (s + a.1)).k, (L (s + a.1)).t, ⟨#[]⟩, (L (s + a.1)).x⟩] ++ [⟨2, q.last + 1, id, bf, 0, ⟨#[]⟩, ⟨#[]⟩, ⟨#[]⟩⟩] ++ r.1, q.stay, r.2⟩
    else
      let r := br (kids.getD p.toNat 0) (T (kids.getD p.toNat 0)) (s + a.1) (a.2 - a.1) q.last
      ⟨q.pats ++ [⟨2, kids.getD p.toNat 0, id, bf, 0, ⟨#[]⟩, ⟨#[]⟩, ⟨#[]⟩⟩] ++ r.1, q.stay, r.2⟩
def kidsDone (br : Br) (T : Int → NI) (L : Nat → Nod) (id : Int) (kids : List Int) (s : Nat) (ps : List (Nat × Nat)) (pr : List Int) (q : KS) : Nat → KS
  | 0 => q
  | k + 1 => kidStep br T L id kids s (kidsDone br T L id kids s ps pr q k) (ps.getD k (0, 0)) (pr.getD k 0)
def partsOf (L : Nat → Nod) (s n : Nat) : List (Nat × Nat) := partsP (fun i => (L (s + i)).d) n
def pairsOf (T : Int → NI) (L : Nat → Nod) (kids : List Int) (s : Nat) (ps : List (Nat × Nat)) : List Int :=
  pairsP (fun j => ((T (kids.getD j 0)).tag, (T (kids.getD j 0)).key)) kids.length (fun j => ((L (s + (ps.getD j (0, 0)).1)).t, (L (s + (ps.getD j (0, 0)).1)).k)) ps.length
def stayOf (pr : List Int) : List Int := rowP (fun j => (pr.filter keepB).getD j 0) (pr.filter keepB).length
def bringKidsP (br : Br) (T : Int → NI) (L : Nat → Nod) (id : Int) (x : NI) (s n : Nat) (last : Int) : List Pat × Int :=
  let ps := partsOf L s n
  let pr := pairsOf T L x.kids s ps
  let e := kidsDone br T L id x.kids s ps pr ⟨remsP (fun j => x.kids.getD j 0) pr x.kids.length, stayOf pr, last⟩ ps.length
  (e.pats, e.last)
def textP (id : Int) (x : NI) (n : Nod) : List Pat := bif x.text.toList == n.x.toList then [] else [⟨6, id, 0, 0, 0, ⟨#[]⟩, ⟨#[]⟩, n.x⟩]
def attrsP (id : Int) (x : NI) (n : Nod) : List Pat := unsP id (nmOf x.ats) n.nm n.an x.ats.length ++ setsP id (nmOf x.ats) (vlOf x.ats) x.ats.length n.nm n.vl n.an
def bringP (T : Int → NI) (L : Nat → Nod) : Nat → Br
  | 0 => fun _ _ _ _ last => ([], last)
  | f + 1 => fun id x s n last =>
    let r := bringKidsP (bringP T L f) T L id x s n last
    (textP id x (L s) ++ attrsP id x (L s) ++ r.1, r.2)
structure NodeV (WB : Nat) (pv : Value) (w : World) (nb : Int → Nat) (N : Nat) (id : Int) (x : NI) : Prop where
  free : Free WB pv w N
  c0 : w.cell? ⟨N, 0, none⟩ = some (.int .i64 id)
  c1 : w.cell? ⟨N, 1, none⟩ = some (.int .i64 x.key)
  c2 : w.cell? ⟨N, 2, none⟩ = some (.string x.tag)
  c3 : w.cell? ⟨N, 3, none⟩ = some (.string x.text)
  c4 : ∃ na nc, w.cell? ⟨N, 4, none⟩ = some (.slice na x.ats.length nc) ∧ AttrsV WB pv w na x.ats.length (nmOf x.ats) (vlOf x.ats)
  c6 : ∃ ko kc, w.cell? ⟨N, 6, none⟩ = some (.slice ko x.kids.length kc) ∧ ∀ j, j < x.kids.length → ∃ g, ko = some ⟨g, 0, none⟩ ∧ Free WB pv w g ∧ w.cell? ⟨g, j, none⟩ = some (.pointer (some ⟨nb (x.kids.getD j 0), 0, none⟩))
structure NI.Ok (x : NI) : Prop where
  few : x.ats.length ≤ 5
  names : ∀ j, j < x.ats.length → (nmOf x.ats j).size ≤ 1000000
  tag : x.tag.size ≤ maxLen
  key : I64 x.key
  kids : x.kids.length ≤ 1000
theorem NodeV.tells {WB : Nat} {pv pv' : Value} {w w' : World} {nb : Int → Nat} {N : Nat} {id : Int} {x : NI} (h : NodeV WB pv w nb N id x) (k : Tells WB pv pv' w w') : NodeV WB pv' w' nb N id x := by
  refine ⟨h.free.tells k, (h.free.cell k).trans h.c0, (h.free.cell k).trans h.c1, (h.free.cell k).trans h.c2, (h.free.cell k).trans h.c3, ?_, ?_⟩
  · obtain ⟨na, nc, e, h4⟩ := h.c4
    exact ⟨na, nc, (h.free.cell k).trans e, h4.tells k⟩
  · obtain ⟨ko, kc, e, h6⟩ := h.c6
    refine ⟨ko, kc, (h.free.cell k).trans e, fun j hj => ?_⟩
    obtain ⟨g, e1, f, c⟩ := h6 j hj
    exact ⟨g, e1, f.tells k, (f.cell k).trans c⟩
structure TableV (WB : Nat) (pv : Value) (w : World) (nb : Int → Nat) (S : Int → Prop) (T : Int → NI) : Prop where
  node : ∀ i, S i → NodeV WB pv w nb (nb i) i (T i)
  kids : ∀ i, S i → ∀ k, k ∈ (T i).kids → S k
  ok : ∀ i, S i → (T i).Ok
theorem TableV.tells {WB : Nat} {pv pv' : Value} {w w' : World} {nb : Int → Nat} {S : Int → Prop} {T : Int → NI} (h : TableV WB pv w nb S T) (k : Tells WB pv pv' w w') : TableV WB pv' w' nb S T := ⟨fun i hi => (h.node i hi).tells k, h.kids, h.ok⟩
structure PartV (WB : Nat) (pv : Value) (w : World) (b o n : Nat) (L : Nat → Nod) : Prop where
  free : Free WB pv w b
  node : ∀ i, i < n → NodAt w b (o + i * 5) (L i)
  attrs : ∀ i, i < n → AttrsV WB pv w (L i).ao (L i).an (L i).nm (L i).vl
theorem PartV.tells {WB : Nat} {pv pv' : Value} {w w' : World} {b o n : Nat} {L : Nat → Nod} (h : PartV WB pv w b o n L) (k : Tells WB pv pv' w w') : PartV WB pv' w' b o n L := by
  refine ⟨h.free.tells k, fun i hi => ?_, fun i hi => (h.attrs i hi).tells k⟩
  have hn := h.node i hi
  exact ⟨(h.free.cell k).trans hn.c0, (h.free.cell k).trans hn.c1, (h.free.cell k).trans hn.c2, (h.free.cell k).trans hn.c3, (h.free.cell k).trans hn.c4, ⟨hn.ok.an, hn.ok.t, hn.ok.x, ((h.attrs i hi).tells k).at_⟩⟩
structure Nod.Small (n : Nod) : Prop where
  an : n.an ≤ 5
  ats : ∀ j, j < n.an → (n.nm j).size ≤ 1000000 ∧ (n.vl j).size ≤ 1000000
  tag : n.t.size ≤ 1000000
  text : n.x.size ≤ 1000000
  key : I64 n.k
  dep : 0 ≤ n.d ∧ n.d ≤ 1000
end Go.Proofs.Ytobgcaemnpkbmaa
namespace Go.Proofs.Ytobgcaemnpkbmaa
open Go.RowKit
def Told (B WB : Nat) (pv : Value) (P : List Pat) (w : World) (r : List Pat × Int) (e : Ending) (w' : World) : Prop := e = .returned (.tuple #[]) ∧ ∃ pv', WayAt B w' WB pv' (P ++ r.1) r.2 ∧ Tells WB pv pv' w w'
theorem textP_yes {id : Int} {x : NI} {n : Nod} (h : (x.text.toList == n.x.toList) = true) : textP id x n = [] := by simp only [textP, h, cond_true]
theorem textP_no {id : Int} {x : NI} {n : Nod} (h : (x.text.toList == n.x.toList) = false) : textP id x n = [⟨6, id, 0, 0, 0, ⟨#[]⟩, ⟨#[]⟩, n.x⟩] := by simp only [textP, h, cond_false]
theorem textP_length (id : Int) (x : NI) (n : Nod) : (textP id x n).length ≤ 1 := by unfold textP; cases (x.text.toList == n.x.toList) <;> simp
set_option maxHeartbeats 2000000 in
set_option maxRecDepth 100000 in
theorem bring_by (B WB : Nat) (pv : Value) (P : List Pat) (last : Int) (w : World) (h : WayAt B w WB pv P last) (hB : B ≤ w.heap.size) (hP : P.length ≤ 800000) (nb : Int → Nat) (N : Nat) (id : Int) (x : NI) (hN : NodeV WB pv w nb N id x) (hx : x.Ok) (b o n c : Nat) (L : Nat → Nod) (hn : 1 ≤ n) (hc : n ≤ c) (hn2 : n ≤ 100000) (hL : PartV WB pv w b o n L) (hs : ∀ i, i < n → (L i).Small) (r : List Pat × Int)
    (hK : ∀ pv1 w1 q m qc C, WayAt B w1 WB pv1 (P ++ textP id x (L 0) ++ attrsP id x (L 0)) last → Tells WB pv pv1 w w1 → w1.ownsRow C 22 1 (.slice q m qc) m (pieces b o c (partsP (fun i => (L i).d) n)) → m = (partsP (fun i => (L i).d) n).length → (∀ g, Value.ownBlock (.slice q m qc) = some g → Free WB pv1 w1 g) → Calls Try.prog 59 #[.pointer (some ⟨WB, 0, none⟩), .pointer (some ⟨N, 0, none⟩), .slice q m qc] w1 (Told B WB pv1 (P ++ textP id x (L 0) ++ attrsP id x (L 0)) w1 r)) :
    Calls Try.prog 41 #[.pointer (some ⟨WB, 0, none⟩), .pointer (some ⟨N, 0, none⟩), .slice (some ⟨b, o, none⟩) n c] w (Told B WB pv P w (textP id x (L 0) ++ attrsP id x (L 0) ++ r.1, r.2)) := by
  have hc3 := hN.c3
  have hc0 := hN.c0
  have hx4 : w.cell? ⟨b, o + 4, none⟩ = some (.string (L 0).x) := by have := (hL.node 0 hn).c4; rw [Nat.zero_mul, Nat.add_zero] at this; exact this
  have HC1 : Hid (∀ pv1 w1, WayAt B w1 WB pv1 (P ++ textP id x (L 0)) last → Tells WB pv pv1 w w1 → w1.cell? ⟨b, o + 3, none⟩ = some (.slice (L 0).ao (L 0).an (L 0).ac) ∧ Calls Try.prog 58 #[.pointer (some ⟨WB, 0, none⟩), .pointer (some ⟨N, 0, none⟩), .slice (L 0).ao (L 0).an (L 0).ac] w1 fun e w' => e = .returned (.tuple #[]) ∧ ∃ pv', WayAt B w' WB pv' (P ++ textP id x (L 0) ++ attrsP id x (L 0)) last ∧ Tells WB pv1 pv' w1 w') := hide fun pv1 w1 hW1 hT1 => by
    have hN1 := hN.tells hT1
    have hL1 := hL.tells hT1
    obtain ⟨na, nc, e4, v4⟩ := hN1.c4
    refine ⟨?_, ?_⟩
    · have := (hL1.node 0 hn).c3
      rw [Nat.zero_mul, Nat.add_zero] at this
      exact this
    · have := bringAttrs_any B WB pv1 (P ++ textP id x (L 0)) last w1 hW1 (Nat.le_trans hB hT1.touch.size) (by have := textP_length id x (L 0); rw [List.length_append]; omega) N id na x.ats.length nc (nmOf x.ats) (vlOf x.ats) hN1.free hN1.c0 e4 v4 hx.few hx.names (L 0).ao (L 0).an (L 0).ac (L 0).nm (L 0).vl (hL1.attrs 0 hn) (hs 0 hn).an (hs 0 hn).ats
      rw [List.append_assoc (P ++ textP id x (L 0))] at this
      exact this
  have HPt : Hid (∀ pv1 w1, Tells WB pv pv1 w w1 → Calls Try.prog 60 #[.slice (some ⟨b, o, none⟩) n c] w1 fun e w' => ∃ q, e = .returned q ∧ w'.ownsRow w1.heap.size 22 1 q (partsP (fun i => (L i).d) n).length (pieces b o c (partsP (fun i => (L i).d) n)) ∧ Below w1.heap.size w1 w') := hide fun pv1 w1 hT1 =>
    parts_any b o n c (fun i => (L i).d) w1 hn hc hn2 (hL.tells hT1).free.1 (fun i hi => ((hL.tells hT1).node i hi).c0) (fun i hi => (hs i hi).dep)
  have HK := hide hK
  have H := hide h
  have HFN := hide hN.free
  have HFb := hide hL.free
  have hsx := (hs 0 hn).text
  have lN := hN.free.1
  have lb := hL.free.1
  have hn0 : 0 < n := hn
  clear h hK hN hL hs hx
  cases e : (x.text.toList == (L 0).x.toList) with
  | true =>
    have et := textP_yes (id := id) e
    go_enter Try.func41, Try.ntmps41
    go_wp2_with fail
    go_big_quiet (fail)
    have hW1 : WayAt B (w.drewN nq) WB pv (P ++ textP id x (L 0)) last := by
      rw [et, List.append_nil]
      exact H.out.below (drewN_of (.refl _ _) nq)
    have hT1 : Tells WB pv pv w (w.drewN nq) := .of_below (drewN_of (.refl _ _) nq)
    generalize w.drewN nq = w1 at hW1 hT1 ⊢
    obtain ⟨k3, hA⟩ := HC1.out _ w1 hW1 hT1
    have HA := hide hA
    have HT1 := hide hT1
    clear hA hT1 hW1
    go_wp2_with (first | (go_at_call 58; refine (unhide HA).mono ?_; rintro e w2 ⟨rfl, pv2, hW2, hT2⟩; have HW2 := hide hW2; have HT2 := hide (HT1.out.trans hT2); clear hW2 hT2 k3) | (go_at_call 60; refine (unhide HPt _ _ HT2.out).mono ?_; rintro e w3 ⟨q3, rfl, hR3, hB3⟩; obtain ⟨qa, qc, rfl⟩ := own_shape hR3; have HR3 := hide hR3; have HB3 := hide hB3; clear hR3 hB3) | (go_at_call 59; refine (unhide HK pv2 w3 qa _ qc w2.heap.size (HW2.out.below HB3.out) (HT2.out.trans (.of_below HB3.out)) HR3.out rfl (fun g e => ⟨(HR3.out.lt g e).2, fun e2 => by have := HW2.out.lt; have := (HR3.out.lt g e).1; omega, fun e2 => by have := (HW2.out.row.lt g e2).2; have := (HR3.out.lt g e).1; omega⟩)).mono ?_; rintro e w4 ⟨rfl, pv4, hW4, hT4⟩; have HW4 := hide hW4; have HT4 := hide hT4; clear hW4 hT4))
    refine bodyPost_end (results_none rfl _ _ _) rfl ?_
    refine ⟨rfl, pv4, ?_, (HT2.out.trans (.of_below HB3.out)).trans HT4.out⟩
    show WayAt B w4 WB pv4 (P ++ (textP id x (L 0) ++ attrsP id x (L 0) ++ r.1)) r.2
    rw [← List.append_assoc, ← List.append_assoc]
    exact HW4.out
  | false =>
    have et := textP_no (id := id) e
    go_enter Try.func41, Try.ntmps41
    go_wp2_with fail
    go_big_quiet (fail)
    have hb0 : Below w.heap.size w (w.drewN nq) := drewN_of (.refl _ _) nq
    have m0 : (w.drewN nq).cell? ⟨N, 0, none⟩ = some (.int .i64 id) := hc0
    have m4 : (w.drewN nq).cell? ⟨b, o + 4, none⟩ = some (.string (L 0).x) := hx4
    generalize w.drewN nq = x0 at hb0 m0 m4 ⊢
    go_wp2_with fail
    have hS0 : (fun w' : World => w'.cell? ⟨N, 0, none⟩ = some (.int .i64 id) ∧ w'.cell? ⟨b, o + 4, none⟩ = some (.string (L 0).x)) x0.drew := ⟨m0, m4⟩
    refine wp_region_last (S := (fun w' : World => w'.cell? ⟨N, 0, none⟩ = some (.int .i64 id) ∧ w'.cell? ⟨b, o + 4, none⟩ = some (.string (L 0).x))) (by kernel_rfl) ?_
    refine wpAnyT_take (i := 0) (v := ?va0) rfl (by kernel_rfl) (by kernel_rfl) (by kernel_rfl) (by kernel_rfl) (fun _ _ _ h => h) (Or.inl ⟨by rfl, ?hya0⟩) hS0 ?ra0
    case hya0 => (intro w' hSw; (try obtain ⟨q0, q1⟩ := hSw); simp only [List.getElem_toArray, List.getElem_cons_zero]; go_simp; try (with_reducible rfl))
    simp only [List.getElem_toArray, List.getElem_cons_zero, Act.put, List.setIfInBounds_toArray, List.set_cons_zero, List.set_cons_succ]
    refine wpAnyT_take (i := 1) (v := ?va1) rfl (by kernel_rfl) (by kernel_rfl) (by kernel_rfl) (by kernel_rfl) (fun _ _ _ h => h) (Or.inl ⟨by rfl, ?hya1⟩) hS0 ?ra1
    case hya1 => (intro w' hSw; (try obtain ⟨q0, q1⟩ := hSw); simp only [List.getElem_toArray, List.getElem_cons_zero, List.getElem_cons_succ]; go_simp; try (with_reducible rfl))
    simp only [List.getElem_toArray, List.getElem_cons_zero, List.getElem_cons_succ, Act.put, List.setIfInBounds_toArray, List.set_cons_zero, List.set_cons_succ]
    refine wpAnyT_take (i := 2) (v := ?va2) rfl (by kernel_rfl) (by kernel_rfl) (by kernel_rfl) (by kernel_rfl) (fun _ _ _ h => h) (Or.inl ⟨by rfl, ?hya2⟩) hS0 ?ra2
    case hya2 => (intro w' hSw; (try obtain ⟨q0, q1⟩ := hSw); simp only [List.getElem_toArray, List.getElem_cons_zero, List.getElem_cons_succ]; go_simp; try (with_reducible rfl))
    simp only [List.getElem_toArray, List.getElem_cons_zero, List.getElem_cons_succ, Act.put, List.setIfInBounds_toArray, List.set_cons_zero, List.set_cons_succ]
    refine wpAnyT_take (i := 3) (v := ?va3) rfl (by kernel_rfl) (by kernel_rfl) (by kernel_rfl) (by kernel_rfl) (fun _ _ _ h => h) (Or.inl ⟨by rfl, ?hya3⟩) hS0 ?ra3
    case hya3 => (intro w' hSw; (try obtain ⟨q0, q1⟩ := hSw); simp only [List.getElem_toArray, List.getElem_cons_zero, List.getElem_cons_succ]; go_simp; try (with_reducible rfl))
    simp only [List.getElem_toArray, List.getElem_cons_zero, List.getElem_cons_succ, Act.put, List.setIfInBounds_toArray, List.set_cons_zero, List.set_cons_succ]
    refine wpAnyT_take (i := 4) (v := ?va4) rfl (by kernel_rfl) (by kernel_rfl) (by kernel_rfl) (by kernel_rfl) (fun _ _ _ h => h) (Or.inl ⟨by rfl, ?hya4⟩) hS0 ?ra4
    case hya4 => (intro w' hSw; (try obtain ⟨q0, q1⟩ := hSw); simp only [List.getElem_toArray, List.getElem_cons_zero, List.getElem_cons_succ]; go_simp; try (with_reducible rfl))
    simp only [List.getElem_toArray, List.getElem_cons_zero, List.getElem_cons_succ, Act.put, List.setIfInBounds_toArray, List.set_cons_zero, List.set_cons_succ]
    refine wpAnyT_take (i := 5) (v := ?va5) rfl (by kernel_rfl) (by kernel_rfl) (by kernel_rfl) (by kernel_rfl) (fun _ _ _ h => h) (Or.inl ⟨by rfl, ?hya5⟩) hS0 ?ra5
    case hya5 => (intro w' hSw; (try obtain ⟨q0, q1⟩ := hSw); simp only [List.getElem_toArray, List.getElem_cons_zero, List.getElem_cons_succ]; go_simp; try (with_reducible rfl))
    simp only [List.getElem_toArray, List.getElem_cons_zero, List.getElem_cons_succ, Act.put, List.setIfInBounds_toArray, List.set_cons_zero, List.set_cons_succ]
    refine wpAnyT_take (i := 6) (v := ?va6) rfl (by kernel_rfl) (by kernel_rfl) (by kernel_rfl) (by kernel_rfl) (fun _ _ _ h => h) (Or.inl ⟨by rfl, ?hya6⟩) hS0 ?ra6
    case hya6 => (intro w' hSw; (try obtain ⟨q0, q1⟩ := hSw); simp only [List.getElem_toArray, List.getElem_cons_zero, List.getElem_cons_succ]; go_simp; try (with_reducible rfl))
    simp only [List.getElem_toArray, List.getElem_cons_zero, List.getElem_cons_succ, Act.put, List.setIfInBounds_toArray, List.set_cons_zero, List.set_cons_succ]
    refine wpAnyT_take (i := 7) (v := ?va7) rfl (by kernel_rfl) (by kernel_rfl) (by kernel_rfl) (by kernel_rfl) (fun _ _ _ h => h) (Or.inl ⟨by rfl, ?hya7⟩) hS0 ?ra7
    case hya7 => (intro w' hSw; (try obtain ⟨q0, q1⟩ := hSw); simp only [List.getElem_toArray, List.getElem_cons_zero, List.getElem_cons_succ]; go_simp; try (with_reducible rfl))
    simp only [List.getElem_toArray, List.getElem_cons_zero, List.getElem_cons_succ, Act.put, List.setIfInBounds_toArray, List.set_cons_zero, List.set_cons_succ]
    refine wpAnyT_take (i := 8) (v := ?va8) rfl (by kernel_rfl) (by kernel_rfl) (by kernel_rfl) (by kernel_rfl) (fun _ _ _ h => h) (Or.inl ⟨by rfl, ?hya8⟩) hS0 ?ra8
    case hya8 => (intro w' hSw; (try obtain ⟨q0, q1⟩ := hSw); simp only [List.getElem_toArray, List.getElem_cons_zero, List.getElem_cons_succ]; go_simp; try (with_reducible rfl))
    simp only [List.getElem_toArray, List.getElem_cons_zero, List.getElem_cons_succ, Act.put, List.setIfInBounds_toArray, List.set_cons_zero, List.set_cons_succ]
    refine wpAnyT_take (i := 9) (v := ?va9) rfl (by kernel_rfl) (by kernel_rfl) (by kernel_rfl) (by kernel_rfl) (fun _ _ _ h => h) (Or.inl ⟨by rfl, ?hya9⟩) hS0 ?ra9
    case hya9 => (intro w' hSw; (try obtain ⟨q0, q1⟩ := hSw); simp only [List.getElem_toArray, List.getElem_cons_zero, List.getElem_cons_succ]; go_simp; try (with_reducible rfl))
    simp only [List.getElem_toArray, List.getElem_cons_zero, List.getElem_cons_succ, Act.put, List.setIfInBounds_toArray, List.set_cons_zero, List.set_cons_succ]
    refine wpAnyT_one (i := 10) rfl (by kernel_rfl) (by rfl) ?_
    simp only [List.getElem_toArray, List.getElem_cons_zero, List.getElem_cons_succ]
    go_simp
    refine ⟨.inr ?_, ?_⟩
    · exact ⟨((((Below.refl x0.heap.size x0).alloc (Nat.le_refl _) _).cell (p := ⟨N, 0, none⟩) (World.block_lt_of_cell? _ _ m0))).trans m0, ((((Below.refl x0.heap.size x0).alloc (Nat.le_refl _) _).cell (p := ⟨b, o + 4, none⟩) (World.block_lt_of_cell? _ _ m4))).trans m4⟩
    clear hS0
    refine wpAnyT_one (i := 11) rfl (by kernel_rfl) (by rfl) ?_
    simp only [List.getElem_toArray, List.getElem_cons_zero, List.getElem_cons_succ]
    go_simp
    refine (tell_new B WB pv P last x0 (H.out.below hb0) (Nat.le_trans hB hb0.size) (by omega) 6 id 0 0 0 ⟨#[]⟩ ⟨#[]⟩ (L 0).x (by decide) (by decide) hsx).mono ?_
    rintro e x3 ⟨rfl, pv1, hW3, hT3⟩
    have hT03 := (Tells.of_below (WB := WB) (pv := pv) hb0).trans hT3
    refine ⟨.inr ⟨(HFN.out.cell hT03).trans hc0, (HFb.out.cell hT03).trans hx4⟩, ?_⟩
    have hW1 : WayAt B x3 WB pv1 (P ++ textP id x (L 0)) last := by rw [et]; exact hW3
    have hT1 := hT03
    clear hT03 hT3 hW3 hb0 m0 m4
    refine wpAnyT_done (by kernel_rfl) ?_ _
    generalize x3 = w1 at hW1 hT1 ⊢
    obtain ⟨k3, hA⟩ := HC1.out _ w1 hW1 hT1
    have HA := hide hA
    have HT1 := hide hT1
    clear hA hT1 hW1
    go_wp2_with (first | (go_at_call 58; refine (unhide HA).mono ?_; rintro e w2 ⟨rfl, pv2, hW2, hT2⟩; have HW2 := hide hW2; have HT2 := hide (HT1.out.trans hT2); clear hW2 hT2 k3) | (go_at_call 60; refine (unhide HPt _ _ HT2.out).mono ?_; rintro e w3 ⟨q3, rfl, hR3, hB3⟩; obtain ⟨qa, qc, rfl⟩ := own_shape hR3; have HR3 := hide hR3; have HB3 := hide hB3; clear hR3 hB3) | (go_at_call 59; refine (unhide HK pv2 w3 qa _ qc w2.heap.size (HW2.out.below HB3.out) (HT2.out.trans (.of_below HB3.out)) HR3.out rfl (fun g e => ⟨(HR3.out.lt g e).2, fun e2 => by have := HW2.out.lt; have := (HR3.out.lt g e).1; omega, fun e2 => by have := (HW2.out.row.lt g e2).2; have := (HR3.out.lt g e).1; omega⟩)).mono ?_; rintro e w4 ⟨rfl, pv4, hW4, hT4⟩; have HW4 := hide hW4; have HT4 := hide hT4; clear hW4 hT4))
    refine bodyPost_end (results_none rfl _ _ _) rfl ?_
    refine ⟨rfl, pv4, ?_, (HT2.out.trans (.of_below HB3.out)).trans HT4.out⟩
    show WayAt B w4 WB pv4 (P ++ (textP id x (L 0) ++ attrsP id x (L 0) ++ r.1)) r.2
    rw [← List.append_assoc, ← List.append_assoc]
    exact HW4.out
end Go.Proofs.Ytobgcaemnpkbmaa
namespace Go.Proofs.Ytobgcaemnpkbmaa
open Go.RowKit
theorem partsTo_span (D : Nat → Int) (n : Nat) : ∀ k, k + 1 ≤ n → ∀ s, s ∈ (partsTo D n k).1 → 1 ≤ s.1 ∧ s.1 < s.2 ∧ s.2 ≤ k + 1
  | 0, _, s, h => by simp [partsTo] at h
  | k + 1, hk, s, h => by
    have ih := partsTo_span D n k (by omega)
    have hs := partsTo_start D n k
    cases hc : cutB D n (k + 2) with
    | true =>
      rw [partsTo_yes hc] at h
      rcases List.mem_append.1 h with h | h
      · have := ih s h; omega
      · have e := List.mem_singleton.1 h
        subst e
        exact ⟨hs.1, by show (partsTo D n k).2 < k + 2; omega, Nat.le_refl _⟩
    | false =>
      rw [partsTo_no hc] at h
      have := ih s h
      omega
theorem partsP_span {D : Nat → Int} {n : Nat} (hn : 1 ≤ n) {s : Nat × Nat} (h : s ∈ partsP D n) : 1 ≤ s.1 ∧ s.1 < s.2 ∧ s.2 ≤ n := by
  have := partsTo_span D n (n - 1) (by omega) s h
  omega
theorem partsP_length (D : Nat → Int) (n : Nat) : (partsP D n).length ≤ n := Nat.le_trans (partsTo_length D n (n - 1)) (Nat.sub_le _ _)
theorem kids_in {WB : Nat} {pv : Value} {w : World} {nb : Int → Nat} {S : Int → Prop} {T : Int → NI} (hT : TableV WB pv w nb S T) {kids : List Int} (hk : ∀ k, k ∈ kids → S k) {ko : Option Addr} (h6 : ∀ j, j < kids.length → ∃ g, ko = some ⟨g, 0, none⟩ ∧ Free WB pv w g ∧ w.cell? ⟨g, j, none⟩ = some (.pointer (some ⟨nb (kids.getD j 0), 0, none⟩))) :
    KidsIn w ko kids.length (fun j => ((T (kids.getD j 0)).tag, (T (kids.getD j 0)).key)) := by
  intro j hj
  obtain ⟨g, e, f, c⟩ := h6 j hj
  have hm : kids.getD j 0 ∈ kids := by rw [List.getD_eq_getElem?_getD, List.getElem?_eq_getElem hj]; exact List.getElem_mem hj
  have hn := hT.node _ (hk _ hm)
  have ho := hT.ok _ (hk _ hm)
  exact ⟨g, _, e, f.1, hn.free.1, c, hn.c1, hn.c2, ho.tag, ho.key⟩
theorem kids_v {WB : Nat} {pv : Value} {w : World} {nb : Int → Nat} {S : Int → Prop} {T : Int → NI} (hT : TableV WB pv w nb S T) {kids : List Int} (hk : ∀ k, k ∈ kids → S k) {ko : Option Addr} (h6 : ∀ j, j < kids.length → ∃ g, ko = some ⟨g, 0, none⟩ ∧ Free WB pv w g ∧ w.cell? ⟨g, j, none⟩ = some (.pointer (some ⟨nb (kids.getD j 0), 0, none⟩))) :
    KidsV WB pv w ko kids.length (fun j => kids.getD j 0) := by
  intro j hj
  obtain ⟨g, e, f, c⟩ := h6 j hj
  have hm : kids.getD j 0 ∈ kids := by rw [List.getD_eq_getElem?_getD, List.getElem?_eq_getElem hj]; exact List.getElem_mem hj
  have hn := hT.node _ (hk _ hm)
  exact ⟨g, _, e, f, hn.free, c, hn.c0⟩
theorem row_at {w : World} {C : Nat} {e : TypeId} {ao : Option Addr} {n c : Nat} {xs : List Value} {j : Nat} (h : w.ownsRow C e 1 (.slice ao n c) n xs) (hj : j < n) : ∃ g, ∃ hl : j < xs.length, ao = some ⟨g, 0, none⟩ ∧ g < w.heap.size ∧ w.cell? ⟨g, j, none⟩ = some xs[j] := by
  have hl : xs.length = n := by have := h.1; omega
  rcases h.2 with ⟨e, e0⟩ | ⟨g, cap, cur, e, hb, hg, _⟩
  · omega
  · simp at e
    obtain ⟨rfl, rfl⟩ := e
    refine ⟨g, by omega, rfl, (Array.getElem?_eq_some_iff.1 hg).1, ?_⟩
    rw [h.cellAt j (by omega), List.getElem?_eq_getElem (by omega)]
theorem part_at {w : World} {C : Nat} {e : TypeId} {po : Option Addr} {m pc b o c : Nat} {ps : List (Nat × Nat)} (h : w.ownsRow C e 1 (.slice po m pc) m (pieces b o c ps)) (hm : m = ps.length) {j : Nat} (hj : j < m) : ∃ g, po = some ⟨g, 0, none⟩ ∧ g < w.heap.size ∧ ps.getD j (0, 0) ∈ ps ∧ w.cell? ⟨g, j, none⟩ = some (pieceV b o c (ps.getD j (0, 0))) := by
  obtain ⟨g, hl, e, hg, hc⟩ := row_at h hj
  have hjl : j < ps.length := by omega
  have e2 : ps.getD j (0, 0) = ps[j] := by rw [List.getD_eq_getElem?_getD, List.getElem?_eq_getElem hjl]; rfl
  refine ⟨g, e, hg, by rw [e2]; exact List.getElem_mem hjl, ?_⟩
  rw [hc, e2]
  simp only [pieces, List.getElem_map]
theorem parts_in {WB : Nat} {pv : Value} {w : World} {C : Nat} {e : TypeId} {po : Option Addr} {m pc b o c n : Nat} {L : Nat → Nod} (h : w.ownsRow C e 1 (.slice po m pc) m (pieces b o c (partsP (fun i => (L i).d) n))) (hm : m = (partsP (fun i => (L i).d) n).length) (hn : 1 ≤ n) (hn2 : n ≤ 100000) (hL : PartV WB pv w b o n L) (hs : ∀ i, i < n → (L i).Small) :
    PartsIn w po m (fun j => ((L ((partsP (fun i => (L i).d) n).getD j (0, 0)).1).t, (L ((partsP (fun i => (L i).d) n).getD j (0, 0)).1).k)) := by
  intro j hj
  obtain ⟨g, e1, hg, hmem, hc⟩ := part_at h hm hj
  obtain ⟨h1, h2, h3⟩ := partsP_span hn hmem
  simp only
  generalize (partsP (fun i => (L i).d) n).getD j (0, 0) = a at *
  have hn' := hL.node a.1 (by omega)
  have hs' := hs a.1 (by omega)
  have hx := hs'.tag
  refine ⟨g, b, o + a.1 * 5, a.2 - a.1 - 1, c - a.1, e1, hg, hL.free.1, ?_, hn'.c1, hn'.c2, ?_, hs'.key, by omega⟩
  · rw [hc]
    unfold pieceV
    rw [show a.2 - a.1 - 1 + 1 = a.2 - a.1 by omega]
  · show (L a.1).t.size ≤ maxLen
    unfold maxLen
    omega
end Go.Proofs.Ytobgcaemnpkbmaa
namespace Go.Proofs.Ytobgcaemnpkbmaa
open Go.RowKit
def BringOk (T : Int → NI) (nb : Int → Nat) (S : Int → Prop) (br : Br) (L : Nat → Nod) (f : Nat) : Prop :=
  ∀ (B WB : Nat) (pv : Value) (P : List Pat) (last : Int) (w : World), WayAt B w WB pv P last → B ≤ w.heap.size → TableV WB pv w nb S T →
  ∀ (N : Nat) (id : Int) (x : NI), NodeV WB pv w nb N id x → x.Ok → (∀ k, k ∈ x.kids → S k) →
  ∀ (b o s n c : Nat), 1 ≤ n → n ≤ f → n ≤ c → n ≤ 100000 → PartV WB pv w b o n (fun i => L (s + i)) → (∀ i, i < n → (L (s + i)).Small) →
  P.length + 1020 * n ≤ 800000 → 0 ≤ last → last + n ≤ 4611686018427387904 →
  Calls Try.prog 41 #[.pointer (some ⟨WB, 0, none⟩), .pointer (some ⟨N, 0, none⟩), .slice (some ⟨b, o, none⟩) n c] w (Told B WB pv P w (br id x s n last))
theorem pairs_of {T : Int → NI} {nb : Int → Nat} {S : Int → Prop} {L : Nat → Nod} {WB : Nat} {pv : Value} {w : World} (hT : TableV WB pv w nb S T) {N : Nat} (hN : N < w.heap.size) {kids : List Int} {ko : Option Addr} {kc : Nat} (e6 : w.cell? ⟨N, 6, none⟩ = some (.slice ko kids.length kc)) (h6 : ∀ j, j < kids.length → ∃ g, ko = some ⟨g, 0, none⟩ ∧ Free WB pv w g ∧ w.cell? ⟨g, j, none⟩ = some (.pointer (some ⟨nb (kids.getD j 0), 0, none⟩))) (hk : ∀ k, k ∈ kids → S k) (hkl : kids.length ≤ 1000)
    {b o s n c : Nat} (hn : 1 ≤ n) (hn2 : n ≤ 1000) (hL : PartV WB pv w b o n (fun i => L (s + i))) (hs : ∀ i, i < n → (L (s + i)).Small) {C : Nat} {po : Option Addr} {m pc : Nat} (hrow : w.ownsRow C 22 1 (.slice po m pc) m (pieces b o c (partsOf L s n))) (hm : m = (partsOf L s n).length) :
    Calls Try.prog 77 #[.pointer (some ⟨N, 0, none⟩), .slice po m pc] w fun e w' => ∃ q, e = .returned q ∧ w'.ownsRow w.heap.size 3 1 q m (ints (pairsOf T L kids s (partsOf L s n))) ∧ Below w.heap.size w w' := by
  have hml : m ≤ n := by rw [hm]; exact partsP_length _ _
  have hPi : PartsIn w po m (fun j => ((L (s + ((partsOf L s n).getD j (0, 0)).1)).t, (L (s + ((partsOf L s n).getD j (0, 0)).1)).k)) := parts_in (L := fun i => L (s + i)) hrow hm hn (by omega) hL hs
  have hKi := kids_in hT hk h6
  have := pairs_any N ko kids.length kc (fun j => ((T (kids.getD j 0)).tag, (T (kids.getD j 0)).key)) po m pc (fun j => ((L (s + ((partsOf L s n).getD j (0, 0)).1)).t, (L (s + ((partsOf L s n).getD j (0, 0)).1)).k)) w hN (by omega) (by omega) e6 hKi hPi
  have e : pairsOf T L kids s (partsOf L s n) = pairsP (fun j => ((T (kids.getD j 0)).tag, (T (kids.getD j 0)).key)) kids.length (fun j => ((L (s + ((partsOf L s n).getD j (0, 0)).1)).t, (L (s + ((partsOf L s n).getD j (0, 0)).1)).k)) m := by rw [hm]; rfl
  rw [e]
  exact this
theorem rems_of {T : Int → NI} {nb : Int → Nat} {S : Int → Prop} {B WB : Nat} {pv : Value} {P : List Pat} {last : Int} {w : World} (h : WayAt B w WB pv P last) (hB : B ≤ w.heap.size) (hT : TableV WB pv w nb S T) {N : Nat} (hN : Free WB pv w N) {kids : List Int} {ko : Option Addr} {kc : Nat} (e6 : w.cell? ⟨N, 6, none⟩ = some (.slice ko kids.length kc)) (h6 : ∀ j, j < kids.length → ∃ g, ko = some ⟨g, 0, none⟩ ∧ Free WB pv w g ∧ w.cell? ⟨g, j, none⟩ = some (.pointer (some ⟨nb (kids.getD j 0), 0, none⟩))) (hk : ∀ k, k ∈ kids → S k) (hkl : kids.length ≤ 1000) (hP : P.length ≤ 800000)
    {w1 : World} (hb : Below w.heap.size w w1) {qa : Option Addr} {m qc : Nat} (hm : m ≤ 1000) {l : List Int} (hr : w1.ownsRow w.heap.size 3 1 (.slice qa m qc) m (ints l)) :
    Calls Try.prog 78 #[.pointer (some ⟨WB, 0, none⟩), .pointer (some ⟨N, 0, none⟩), .slice qa m qc] w1 fun e w' => e = .returned (.tuple #[]) ∧ ∃ pv', WayAt B w' WB pv' (P ++ remsP (fun j => kids.getD j 0) l kids.length) last ∧ Tells WB pv pv' w w' ∧ RowV WB pv' w' w.heap.size (.slice qa m qc) m l := by
  have hT1 : Tells WB pv pv w w1 := .of_below hb
  have hrv : RowV WB pv w1 w.heap.size (.slice qa m qc) m l := ⟨hr, fun g e => ⟨(hr.lt g e).2, fun e2 => by have := h.lt; have := (hr.lt g e).1; omega, fun e2 => by have := (h.row.lt g e2).2; have := (hr.lt g e).1; omega⟩⟩
  refine (removeOthers_any B WB pv P last w1 (h.below hb) (Nat.le_trans hB hb.size) (by omega) N ko kids.length kc (fun j => kids.getD j 0) (hN.tells hT1) ((hN.cell hT1).trans e6) ((kids_v hT hk h6).tells hT1) hkl w.heap.size qa m qc l hrv hm).mono ?_
  rintro e w' ⟨rfl, pv', hW, hT2⟩
  exact ⟨rfl, pv', hW, hT1.trans hT2, hrv.tells hT2⟩
end Go.Proofs.Ytobgcaemnpkbmaa
namespace Go.Proofs.Ytobgcaemnpkbmaa
open Go.RowKit
theorem pairsP_range {A : Nat → ByteArray × Int} {n : Nat} {B : Nat → ByteArray × Int} {m : Nat} {p : Int} (h : p ∈ pairsP A n B m) : p = -1 ∨ (0 ≤ p ∧ p < (n : Int)) := by
  unfold pairsP at h
  obtain ⟨j, _, rfl⟩ := List.mem_map.1 h
  unfold pairAt
  cases e : placesTo A n ⟨(B j).1, (B j).2, cntP B (B j) j⟩ with
  | none => exact .inl rfl
  | some v => exact .inr (places_lt A _ n v e)
theorem pairsOf_range {T : Int → NI} {L : Nat → Nod} {kids : List Int} {s : Nat} {ps : List (Nat × Nat)} {p : Int} (h : p ∈ pairsOf T L kids s ps) : p = -1 ∨ (0 ≤ p ∧ p < (kids.length : Int)) := pairsP_range h
theorem pairsOf_length (T : Int → NI) (L : Nat → Nod) (kids : List Int) (s : Nat) (ps : List (Nat × Nat)) : (pairsOf T L kids s ps).length = ps.length := pairsP_length _ _ _ _
theorem rowsTo_lt (v : Nat → Int) : ∀ n c, c ∈ rowsTo v n → ∀ x, x ∈ c → x < n
  | 0, c, h => by simp [rowsTo] at h
  | i + 1, c, h => by
    intro x hx
    have ih := rowsTo_lt v i
    have hnew : ∀ x, x ∈ newC (rowsTo v i) (endAt v (rowsTo v i) i) i → x < i + 1 := fun x hx => by
      rcases mem_newC hx with e | ⟨c, hc, hx⟩
      · omega
      · have := ih c hc x hx; omega
    rw [rowsTo] at h
    unfold rowStep at h
    split at h
    · rcases List.mem_or_eq_of_mem_set h with h | h
      · have := ih c h x hx; omega
      · subst h; exact hnew x hx
    · rcases List.mem_append.1 h with h | h
      · have := ih c h x hx; omega
      · have e := List.mem_singleton.1 h
        subst e
        exact hnew x hx
theorem getLastD_mem' {α : Type} : ∀ (l : List α) (d : α), l ≠ [] → l.getLastD d ∈ l
  | [], _, h => absurd rfl h
  | [a], _, _ => by simp
  | a :: b :: l, d, _ => by
    rw [List.getLastD_cons]
    exact List.mem_cons_of_mem _ (getLastD_mem' (b :: l) a (by simp))
theorem rowP_mem {v : Nat → Int} {n : Nat} {y : Int} (h : y ∈ rowP v n) : ∃ x, x < n ∧ v x = y := by
  unfold rowP at h
  rw [List.mem_reverse] at h
  obtain ⟨x, hx, rfl⟩ := List.mem_map.1 h
  refine ⟨x, ?_, rfl⟩
  cases e : rowsTo v n with
  | nil => rw [e] at hx; simp at hx
  | cons a l =>
    exact rowsTo_lt v n ((rowsTo v n).getLastD []) (getLastD_mem' _ _ (by rw [e]; simp)) x hx
theorem stayOf_range {pr : List Int} {y : Int} (h : y ∈ stayOf pr) : y ∈ pr ∧ y ≠ -1 := by
  obtain ⟨x, hx, e⟩ := rowP_mem h
  have e2 : (pr.filter keepB).getD x 0 = (pr.filter keepB)[x] := by rw [List.getD_eq_getElem?_getD, List.getElem?_eq_getElem hx]; rfl
  have hm : y ∈ pr.filter keepB := by rw [← e]; show (pr.filter keepB).getD x 0 ∈ _; rw [e2]; exact List.getElem_mem hx
  have := List.mem_filter.1 hm
  refine ⟨this.1, fun e => ?_⟩
  have h2 := this.2
  rw [e] at h2
  revert h2
  decide
end Go.Proofs.Ytobgcaemnpkbmaa
