/- Rd0 Rd -/
import Derived.Test.YtobgcaemnpkbmaaGreatD36
import Derived.ProofKit
import Derived.SizedLaws
import Derived.Deep.SlicePairs
import Derived.Test.YtobgcaemnpkbmaaGreatD45
import Derived.Test.YtobgcaemnpkbmaaGreatRows
namespace Go.Proofs.YtobgcaemnpkbmaaGreat
open Go.ChangeShapes Go.WideShapes Go.ChangeAt Go.RowKit Go.Deep
theorem cellsNode : Tryz.prog.cellsOf 33 = 5 := by kernel_rfl
theorem cellsAttr : Tryz.prog.cellsOf 72 = 2 := by kernel_rfl
theorem cellsInt : Tryz.prog.cellsOf 3 = 1 := by kernel_rfl
theorem cellsStr : Tryz.prog.cellsOf 9 = 1 := by kernel_rfl
theorem cellsAttrs : Tryz.prog.cellsOf 31 = 1 := by kernel_rfl
section
variable {H : Type} {enc : TypeId × Value → H} {W : World} {base : Nat} {spare : Nat → Bool} {held : Bool} {fuel : Nat}
theorem addr_plain {a : Addr} (h : a.spot = none) (j : Nat) : a.add j = ⟨a.block, a.off + j, none⟩ := by
  obtain ⟨b, o, s⟩ := a
  cases h
  exact addr_add b o j
theorem read_attrs {v : Value} {x : DataW H × List MemPlace} (h : DataW.trod enc Tryz.prog W base spare held fuel 31 [v] = some x) :
    ∃ (ao : Option Addr) (an ac : Nat) (nm vl : Nat → ByteArray), v = .slice ao an ac ∧ an ≤ maxLen ∧ AttrsAt W ao an nm vl ∧ (ao = none → an = 0 ∧ ac = 0) ∧ (ao ≠ none → ∃ es sp, x.1 = .slice es sp ∧ es.length = an) := by
  rcases open_slice_pairs Tryz.underlying31 Tryz.underlying72 cellsAttr rfl rfl cellsStr cellsStr h with ⟨hcs, _⟩ | ⟨a, len, cap, m, n, V0, V1, D0, D1, P0, P1, hcs, _, hl, hm, hmm, hx, hcell⟩
  · simp at hcs
    exact ⟨none, 0, 0, fun _ => ⟨#[]⟩, fun _ => ⟨#[]⟩, hcs, Nat.zero_le _, fun j hj => absurd hj (Nat.not_lt_zero _), fun _ => ⟨rfl, rfl⟩, fun h => absurd rfl h⟩
  · simp at hcs
    have hlm : len ≤ m := by rw [hmm]; split <;> omega
    obtain ⟨nm, hnm⟩ := choose_lt (α := ByteArray) (n := len) (p := fun i s => V0 i = .string s ∧ s.size ≤ maxLen) (fun i hi => by
      obtain ⟨_, _, t0, _⟩ := hcell i (by omega)
      obtain ⟨s, e, _, hs⟩ := DataW.trod_string Tryz.underlying9 t0
      simp at e
      exact ⟨s, e, hs⟩)
    obtain ⟨vl, hvl⟩ := choose_lt (α := ByteArray) (n := len) (p := fun i s => V1 i = .string s ∧ s.size ≤ maxLen) (fun i hi => by
      obtain ⟨_, _, _, t1⟩ := hcell i (by omega)
      obtain ⟨s, e, _, hs⟩ := DataW.trod_string Tryz.underlying9 t1
      simp at e
      exact ⟨s, e, hs⟩)
    refine ⟨some a, len, cap, nm, vl, hcs, by omega, fun j hj => ?_, (fun h => by cases h), fun _ => ⟨_, _, by rw [hx], by simp⟩⟩
    have hsp : a.spot = none := by simpa [Addr.add] using World.cell?_spot (hcell 0 (by omega)).1
    obtain ⟨c0, c1, _, _⟩ := hcell j (by omega)
    rw [addr_plain hsp, (hnm j hj).1] at c0
    rw [addr_plain hsp, (hvl j hj).1] at c1
    refine ⟨a.block, a.off, ?_, World.block_lt_of_cell? W ⟨a.block, a.off + j * 2, none⟩ c0, c0, c1, (hnm j hj).2, (hvl j hj).2⟩
    obtain ⟨b, o, s⟩ := a
    cases hsp
    rfl
set_option maxRecDepth 100000 in
theorem read_node {b p : Nat} {cs : List Value} {x : DataW H × List MemPlace} (hc : W.cells? base ⟨b, p, none⟩ 5 = some cs) (h : DataW.trod enc Tryz.prog W base spare held fuel 33 cs = some x) :
    ∃ m : Nod, NodAt W b p m ∧ (m.ao = none → m.an = 0 ∧ m.ac = 0) ∧ (m.ao ≠ none → ∃ d0 d1 d2 es sp d4, x.1 = .agg [d0, d1, d2, .slice es sp, d4] ∧ es.length = m.an) := by
  obtain ⟨_, hlen, hcell⟩ := World.cells?_some hc
  obtain ⟨xs, k, _, hx, _, hxl, hf⟩ := DataW.trod_struct Tryz.underlying33 h
  match cs, hlen, xs, hxl with
  | [v0, v1, v2, v3, v4], _, [y0, y1, y2, y3, y4], _ =>
    have g0 := hf 0 _ rfl
    have g1 := hf 1 _ rfl
    have g2 := hf 2 _ rfl
    have g3 := hf 3 _ rfl
    have g4 := hf 4 _ rfl
    simp [cellsInt, cellsStr, cellsAttrs] at g0 g1 g2 g3 g4
    obtain ⟨d, e0, _, _⟩ := DataW.trod_int Tryz.underlying3 g0
    obtain ⟨t, e1, _, ht⟩ := DataW.trod_string Tryz.underlying9 g1
    obtain ⟨key, e2, _, _⟩ := DataW.trod_int Tryz.underlying3 g2
    obtain ⟨ao, an, ac, nm, vl, e3, han, hat, hnil, hsome⟩ := read_attrs g3
    obtain ⟨tx, e4, _, htx⟩ := DataW.trod_string Tryz.underlying9 g4
    simp at e0 e1 e2 e4
    subst e0 e1 e2 e3 e4
    have q0 := hcell 0 (by omega)
    have q1 := hcell 1 (by omega)
    have q2 := hcell 2 (by omega)
    have q3 := hcell 3 (by omega)
    have q4 := hcell 4 (by omega)
    rw [addr_add] at q0 q1 q2 q3 q4
    refine ⟨⟨d, t, key, ao, an, ac, tx, nm, vl⟩, ⟨q0, q1, q2, q3, q4, ⟨han, ht, htx, hat⟩⟩, hnil, fun hne => ?_⟩
    obtain ⟨es, sp, hes, hl⟩ := hsome hne
    refine ⟨y0.1, y1.1, y2.1, es, sp, y4.1, ?_, hl⟩
    rw [hx]
    simp [hes]
end
end Go.Proofs.YtobgcaemnpkbmaaGreat
namespace Go.Proofs.YtobgcaemnpkbmaaGreat
open Go.ChangeShapes Go.WideShapes Go.ChangeAt Go.RowKit Go.Deep
theorem cellsPatch : Tryz.prog.cellsOf 29 = 8 := by kernel_rfl
theorem cellsOp : Tryz.prog.cellsOf 27 = 4 := by kernel_rfl
theorem cellsNodes : Tryz.prog.cellsOf 24 = 1 := by kernel_rfl
theorem cellsPatches : Tryz.prog.cellsOf 25 = 1 := by kernel_rfl
section
variable {H : Type}
theorem bulk_pos (d : DataW H) : 1 ≤ Rows.uptoBulk d := by
  cases d with
  | lit l => cases l <;> simp [Rows.uptoBulk]
  | nil => simp [Rows.uptoBulk]
  | ptr d => simp [Rows.uptoBulk]
  | slice elems spare => simp [Rows.uptoBulk]
  | agg parts => simp [Rows.uptoBulk]
  | iface t d => simp [Rows.uptoBulk]
  | map entries => simp [Rows.uptoBulk]
  | held h => simp [Rows.uptoBulk]
theorem bulk_mem {d : DataW H} : ∀ {l : List (DataW H)}, d ∈ l → Rows.uptoBulk d ≤ Rows.uptoBulkAll l
  | x :: r, h => by
    rw [Rows.uptoBulkAll]
    rcases List.mem_cons.1 h with rfl | h
    · omega
    · have := bulk_mem h; omega
theorem bulk_len : ∀ l : List (DataW H), l.length ≤ Rows.uptoBulkAll l
  | [] => Nat.zero_le _
  | x :: r => by have := bulk_pos x; have := bulk_len r; rw [Rows.uptoBulkAll, List.length_cons]; omega
theorem bulk_elems {l s : List (DataW H)} {N : Nat} (h : Rows.uptoBulk (.slice l s) ≤ N) : Rows.uptoBulkAll l ≤ N ∧ l.length ≤ N := by
  rw [Rows.uptoBulk] at h
  have := bulk_len l
  omega
theorem bulk_part {l : List (DataW H)} {N : Nat} (h : Rows.uptoBulk (.agg l) ≤ N) {d : DataW H} (hd : d ∈ l) : Rows.uptoBulk d ≤ N := by
  rw [Rows.uptoBulk] at h
  have := bulk_mem hd
  omega
variable {enc : TypeId × Value → H} {W : World} {base : Nat} {held : Bool} {fuel : Nat}
set_option maxRecDepth 100000 in
theorem read_nodes {v : Value} {x : DataW H × List MemPlace} (h : DataW.trod enc Tryz.prog W base (fun _ => true) held fuel 24 [v] = some x) (hb : Rows.uptoBulk x.1 ≤ 1048576) :
    ∃ (ao : Option Addr) (n c : Nat) (L : Nat → Nod), v = .slice ao n c ∧ ListIn W ao n L := by
  rcases open_slice Tryz.underlying24 h with ⟨hcs, _⟩ | ⟨a, len, cap, m, k, D, Pl, hcs, _, hl, hm, hmm, hx, hcell⟩
  · simp at hcs
    exact ⟨none, 0, 0, fun _ => spareN, hcs, list_none _ _⟩
  · simp at hcs
    simp only [if_true] at hmm
    subst hmm
    have hx1 : x.1 = .slice ((List.range len).map D) ((List.range (m - len)).map fun j => D (len + j)) := by rw [hx]
    rw [hx1] at hb
    obtain ⟨hb1, hb2⟩ := bulk_elems hb
    rw [List.length_map, List.length_range] at hb2
    have hsp : 0 < len → a.spot = none := fun h0 => by
      obtain ⟨cs', h1, h2⟩ := hcell 0 (by omega)
      rw [cellsNode] at h1
      obtain ⟨_, hlen, hc⟩ := World.cells?_some h1
      have e0 := hc 0 (by omega)
      rw [List.getElem?_eq_getElem (by omega)] at e0
      simpa [Addr.add] using World.cell?_spot e0
    have inst : Inhabited Nod := ⟨spareN⟩
    obtain ⟨L, hL⟩ := choose_lt (α := Nod) (n := len) (p := fun i q => NodAt W a.block (a.off + i * 5) q ∧ (q.ao = none → q.an = 0 ∧ q.ac = 0) ∧ q.an ≤ 1048576) (fun i hi => by
      obtain ⟨cs', h1, h2⟩ := hcell i (by omega)
      rw [cellsNode, addr_plain (hsp (by omega))] at h1
      obtain ⟨q, g1, g2, g3⟩ := read_node h1 h2
      refine ⟨q, g1, g2, ?_⟩
      by_cases hne : q.ao = none
      · rw [(g2 hne).1]; omega
      · obtain ⟨d0, d1, d2, es, sp, d4, e1, e2⟩ := g3 hne
        have hd : D i ∈ (List.range len).map D := List.mem_map.2 ⟨i, List.mem_range.2 hi, rfl⟩
        have h3 := bulk_mem hd
        have e1 : D i = .agg [d0, d1, d2, .slice es sp, d4] := e1
        rw [e1] at h3
        have h4 := bulk_part (N := 1048576) (Nat.le_trans h3 hb1) (d := .slice es sp) (by simp)
        have := (bulk_elems h4).2
        omega)
    refine ⟨some a, len, m, L, hcs, ⟨fun h0 => ⟨a.block, a.off, ?_, ?_, fun i hi => (hL i hi).1⟩, ⟨fun i hi e => ((hL i hi).2.1 e).1, fun i hi => by have := (hL i hi).2.2; omega⟩, fun i hi e => ((hL i hi).2.1 e).2, by omega⟩⟩
    · have := hsp h0
      obtain ⟨b, o, s⟩ := a
      cases this
      rfl
    · exact World.block_lt_of_cell? W ⟨a.block, a.off + 0 * 5, none⟩ (hL 0 h0).1.c0
theorem wf_i64 {n : Int} (h : (Lit.int .i64 n).wf = true) : I64 n := by
  unfold Lit.wf at h
  rw [Bool.and_eq_true] at h
  have h1 : IntKind.min .i64 ≤ n := of_decide_eq_true h.1
  have h2 : n ≤ IntKind.max .i64 := of_decide_eq_true h.2
  have e1 : IntKind.min .i64 = -9223372036854775808 := by decide
  have e2 : IntKind.max .i64 = 9223372036854775807 := by decide
  rw [e1] at h1
  rw [e2] at h2
  exact ⟨h1, h2⟩
set_option maxRecDepth 100000 in
theorem read_patch {b p : Nat} {cs : List Value} {x : DataW H × List MemPlace} {spare : Nat → Bool} (hc : W.cells? base ⟨b, p, none⟩ 8 = some cs) (h : DataW.trod enc Tryz.prog W base spare held fuel 29 cs = some x) :
    ∃ y : Pat, (∀ r, r < 8 → W.cell? ⟨b, p + r, none⟩ = some (patCell y r)) ∧ y.Ok ∧ y.Ints := by
  obtain ⟨_, hlen, hcell⟩ := World.cells?_some hc
  obtain ⟨xs, k, _, hx, _, hxl, hf⟩ := DataW.trod_struct Tryz.underlying29 h
  match cs, hlen, xs, hxl with
  | [v0, v1, v2, v3, v4, v5, v6, v7], _, [y0, y1, y2, y3, y4, y5, y6, y7], _ =>
    have g0 := hf 0 _ rfl
    have g1 := hf 1 _ rfl
    have g2 := hf 2 _ rfl
    have g3 := hf 3 _ rfl
    have g4 := hf 4 _ rfl
    have g5 := hf 5 _ rfl
    have g6 := hf 6 _ rfl
    have g7 := hf 7 _ rfl
    simp [cellsInt, cellsStr] at g0 g1 g2 g3 g4 g5 g6 g7
    obtain ⟨kd, e0, _, _⟩ := DataW.trod_int Tryz.underlying3 g0
    obtain ⟨id, e1, _, w1⟩ := DataW.trod_int Tryz.underlying3 g1
    obtain ⟨pa, e2, _, w2⟩ := DataW.trod_int Tryz.underlying3 g2
    obtain ⟨bf, e3, _, w3⟩ := DataW.trod_int Tryz.underlying3 g3
    obtain ⟨ky, e4, _, _⟩ := DataW.trod_int Tryz.underlying3 g4
    obtain ⟨tg, e5, _, s5⟩ := DataW.trod_string Tryz.underlying9 g5
    obtain ⟨nm, e6, _, s6⟩ := DataW.trod_string Tryz.underlying9 g6
    obtain ⟨tx, e7, _, s7⟩ := DataW.trod_string Tryz.underlying9 g7
    simp at e0 e1 e2 e3 e4 e5 e6 e7
    subst e0 e1 e2 e3 e4 e5 e6 e7
    refine ⟨⟨kd, id, pa, bf, ky, tg, nm, tx⟩, fun r hr => ?_, ⟨s5, s6, s7⟩, ⟨wf_i64 w1, wf_i64 w2, wf_i64 w3⟩⟩
    have q := hcell r (by omega)
    rw [addr_add] at q
    rw [q]
    match r, hr with
    | 0, _ => rfl
    | 1, _ => rfl
    | 2, _ => rfl
    | 3, _ => rfl
    | 4, _ => rfl
    | 5, _ => rfl
    | 6, _ => rfl
    | 7, _ => rfl
set_option maxRecDepth 100000 in
theorem read_patches {v : Value} {x : DataW H × List MemPlace} (h : DataW.trod enc Tryz.prog W base (fun _ => true) held fuel 25 [v] = some x) (hb : Rows.uptoBulk x.1 ≤ 1048576) :
    ∃ (ao : Option Addr) (n c : Nat) (X : Nat → Pat), v = .slice ao n c ∧ PListAt W ao n X ∧ n ≤ 1048576 ∧ ∀ i, i < n → (X i).Ok ∧ (X i).Ints := by
  rcases open_slice Tryz.underlying25 h with ⟨hcs, _⟩ | ⟨a, len, cap, m, k, D, Pl, hcs, _, hl, hm, hmm, hx, hcell⟩
  · simp at hcs
    exact ⟨none, 0, 0, fun _ => spareP, hcs, fun h => absurd h (Nat.lt_irrefl _), by omega, fun i hi => absurd hi (Nat.not_lt_zero _)⟩
  · simp at hcs
    simp only [if_true] at hmm
    subst hmm
    have hx1 : x.1 = .slice ((List.range len).map D) ((List.range (m - len)).map fun j => D (len + j)) := by rw [hx]
    rw [hx1] at hb
    obtain ⟨_, hb2⟩ := bulk_elems hb
    rw [List.length_map, List.length_range] at hb2
    have hsp : 0 < len → a.spot = none := fun h0 => by
      obtain ⟨cs', h1, h2⟩ := hcell 0 (by omega)
      rw [cellsPatch] at h1
      obtain ⟨_, hlen, hc⟩ := World.cells?_some h1
      have e0 := hc 0 (by omega)
      rw [List.getElem?_eq_getElem (by omega)] at e0
      simpa [Addr.add] using World.cell?_spot e0
    have inst : Inhabited Pat := ⟨spareP⟩
    obtain ⟨X, hX⟩ := choose_lt (α := Pat) (n := len) (p := fun i y => (∀ r, r < 8 → W.cell? ⟨a.block, a.off + i * 8 + r, none⟩ = some (patCell y r)) ∧ y.Ok ∧ y.Ints) (fun i hi => by
      obtain ⟨cs', h1, h2⟩ := hcell i (by omega)
      rw [cellsPatch, addr_plain (hsp (by omega))] at h1
      exact read_patch h1 h2)
    refine ⟨some a, len, m, X, hcs, fun h0 => ⟨a.block, a.off, ?_, ?_, fun j hj => ?_⟩, hb2, fun i hi => (hX i hi).2⟩
    · have := hsp h0
      obtain ⟨b, o, s⟩ := a
      cases this
      rfl
    · exact World.block_lt_of_cell? W ⟨a.block, a.off + 0 * 8 + 0, none⟩ ((hX 0 h0).1 0 (by omega))
    · obtain ⟨i, r, hr, rfl⟩ := eight_cases j
      rw [patsCell_at _ _ _ hr, ← (hX i (by omega)).1 r hr, Nat.add_assoc]
set_option maxRecDepth 100000 in
theorem read_op {b p : Nat} {cs : List Value} {x : DataW H × List MemPlace} (hc : W.cells? base ⟨b, p, none⟩ 4 = some cs) (h : DataW.trod enc Tryz.prog W base (fun _ => true) held fuel 27 cs = some x) (hb : Rows.uptoBulk x.1 ≤ 1048576) :
    ∃ o : SOp, (∀ r, r < 4 → W.cell? ⟨b, p + r, none⟩ = o.cells[r]?) ∧ o.Ok W := by
  obtain ⟨_, hlen, hcell⟩ := World.cells?_some hc
  obtain ⟨xs, k, _, hx, _, hxl, hf⟩ := DataW.trod_struct Tryz.underlying27 h
  match cs, hlen, xs, hxl with
  | [v0, v1, v2, v3], _, [y0, y1, y2, y3], _ =>
    have g0 := hf 0 _ rfl
    have g1 := hf 1 _ rfl
    have g2 := hf 2 _ rfl
    have g3 := hf 3 _ rfl
    simp [cellsInt, cellsNodes, cellsPatches] at g0 g1 g2 g3
    have hx1 : x.1 = .agg [y0.1, y1.1, y2.1, y3.1] := by rw [hx]; rfl
    rw [hx1] at hb
    obtain ⟨kd, e0, _, _⟩ := DataW.trod_int Tryz.underlying3 g0
    obtain ⟨at', e1, _, w1⟩ := DataW.trod_int Tryz.underlying3 g1
    obtain ⟨la, ln, lc, L, e2, hL⟩ := read_nodes g2 (bulk_part hb (by simp))
    obtain ⟨pa, pn, pc, X, e3, hX, hn, hxs⟩ := read_patches g3 (bulk_part hb (by simp))
    simp at e0 e1
    subst e0 e1 e2 e3
    refine ⟨⟨kd, at', la, ln, lc, L, pa, pn, pc, X⟩, fun r hr => ?_, ⟨hL, hX, by show pn * 88 ≤ _; omega, hn, hxs, (wf_i64 w1).1, (wf_i64 w1).2⟩⟩
    have q := hcell r (by omega)
    rw [addr_add] at q
    rw [q]
    match r, hr with
    | 0, _ => rfl
    | 1, _ => rfl
    | 2, _ => rfl
    | 3, _ => rfl
set_option maxRecDepth 100000 in
theorem read_script {so : Option Addr} {n c : Nat} {x : DataW H × List MemPlace} (h : DataW.trod enc Tryz.prog W base (fun _ => true) held fuel 22 [.slice so n c] = some x) (hb : Rows.uptoBulk x.1 ≤ 1048576) :
    ∃ O : Nat → SOp, ScriptAt W so n O ∧ n ≤ 1048576 := by
  rcases open_slice Tryz.underlying22 h with ⟨hcs, _⟩ | ⟨a, len, cap, m, k, D, Pl, hcs, _, hl, hm, hmm, hx, hcell⟩
  · simp at hcs
    obtain ⟨rfl, rfl, rfl⟩ := hcs
    exact ⟨fun _ => askO 0, ⟨fun h => absurd h (Nat.lt_irrefl _), fun i hi => absurd hi (Nat.not_lt_zero _)⟩, by omega⟩
  · simp at hcs
    obtain ⟨rfl, rfl, rfl⟩ := hcs
    simp only [if_true] at hmm
    subst hmm
    have hx1 : x.1 = .slice ((List.range n).map D) ((List.range (m - n)).map fun j => D (n + j)) := by rw [hx]
    rw [hx1] at hb
    obtain ⟨hb1, hb2⟩ := bulk_elems hb
    rw [List.length_map, List.length_range] at hb2
    have hsp : 0 < n → a.spot = none := fun h0 => by
      obtain ⟨cs', h1, h2⟩ := hcell 0 (by omega)
      rw [cellsOp] at h1
      obtain ⟨_, hlen, hc⟩ := World.cells?_some h1
      have e0 := hc 0 (by omega)
      rw [List.getElem?_eq_getElem (by omega)] at e0
      simpa [Addr.add] using World.cell?_spot e0
    have inst : Inhabited SOp := ⟨askO 0⟩
    obtain ⟨O, hO⟩ := choose_lt (α := SOp) (n := n) (p := fun i o => (∀ r, r < 4 → W.cell? ⟨a.block, a.off + i * 4 + r, none⟩ = o.cells[r]?) ∧ o.Ok W) (fun i hi => by
      obtain ⟨cs', h1, h2⟩ := hcell i (by omega)
      rw [cellsOp, addr_plain (hsp (by omega))] at h1
      have hd : D i ∈ (List.range n).map D := List.mem_map.2 ⟨i, List.mem_range.2 hi, rfl⟩
      exact read_op h1 h2 (Nat.le_trans (bulk_mem hd) hb1))
    refine ⟨O, ⟨fun h0 => ⟨a.block, a.off, ?_, ?_, fun j r hj hr => (hO j hj).1 r hr⟩, fun j hj => (hO j hj).2⟩, hb2⟩
    · have := hsp h0
      obtain ⟨b, o, s⟩ := a
      cases this
      rfl
    · exact World.block_lt_of_cell? W ⟨a.block, a.off + 0 * 4 + 0, none⟩ ((hO 0 h0).1 0 (by omega))
end
end Go.Proofs.YtobgcaemnpkbmaaGreat
