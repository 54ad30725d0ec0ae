/- Ins2 Rem Theo2 -/
import Derived.Test.YtobgcaemnpkbmaaGreatD06
namespace Go.Proofs.YtobgcaemnpkbmaaGreat
open Go.RowKit
structure Pat where
  kind : Int
  id : Int
  par : Int
  bef : Int
  key : Int
  tag : ByteArray
  name : ByteArray
  text : ByteArray
def Pat.val (x : Pat) : Value := .agg #[.int .i64 x.kind, .int .i64 x.id, .int .i64 x.par, .int .i64 x.bef, .int .i64 x.key, .string x.tag, .string x.name, .string x.text]
set_option maxRecDepth 100000 in
set_option maxHeartbeats 4000000 in
theorem insert_any (S : Nat → Prop) (p : Nat) (R : List RN) (last : Int) (v : Value) (kd id pa bf ky : Int) (tg nme tx : ByteArray) (fr : Nat) (hfr : fr < R.length) (ha : atP R id = (fr : Int)) (w : World) (h : RefAt S w p R last v)
    (hlen : (insP R { R[fr] with par := pa } fr bf).length ≤ 800) (hmem : ∀ n, n ∈ insP R { R[fr] with par := pa } fr bf → n ∈ R ∨ n = { R[fr] with par := pa }) :
    Calls Tryz.prog 55 #[.pointer (some ⟨p, 0, none⟩), .agg #[.int .i64 kd, .int .i64 id, .int .i64 pa, .int .i64 bf, .int .i64 ky, .string tg, .string nme, .string tx]] w fun e w' => e = .returned (.tuple #[]) ∧ ∃ v', RefAt (andNew S w w') w' p (insP R { R[fr] with par := pa } fr bf) last v' ∧ Touch (fun b => b = p) w w' := by
  obtain ⟨i0, hi, hz0, hz1, hz2⟩ := info_parts refInfo
  obtain ⟨g, cap, rfl, hcc, hg, _, _, hcell⟩ := h.at (by omega)
  have hfew := h.few
  have hp := h.lt
  have c0 := h.c0
  have f0 := h.f0
  have n0 : w.cell? ⟨g, fr * 6, none⟩ = some (.int .i64 R[fr].id) := hcell fr 0 hfr (by omega)
  have n1 : w.cell? ⟨g, fr * 6 + 1, none⟩ = some (.int .i64 R[fr].par) := hcell fr 1 hfr (by omega)
  have n2 : w.cell? ⟨g, fr * 6 + 2, none⟩ = some (.string R[fr].tag) := hcell fr 2 hfr (by omega)
  have n3 : w.cell? ⟨g, fr * 6 + 3, none⟩ = some (.int .i64 R[fr].key) := hcell fr 3 hfr (by omega)
  have n4 : w.cell? ⟨g, fr * 6 + 4, none⟩ = some (.slice R[fr].ao R[fr].an R[fr].ac) := hcell fr 4 hfr (by omega)
  have n5 : w.cell? ⟨g, fr * 6 + 5, none⟩ = some (.string R[fr].text) := hcell fr 5 hfr (by omega)
  have HC := hide hcell
  have HR := hide h
  have hA : ∀ w', RefAt S w' p R last (.slice (some ⟨g, 0, none⟩) R.length cap) → Calls Tryz.prog 49 #[.pointer (some ⟨p, 0, none⟩), .int .i64 id] w' fun e w'' => e = .returned (.int .i64 fr) ∧ w'' = w' := by
    intro w' hw
    rw [← ha]
    exact at_any S p R last _ id w' hw
  have HA := hide hA
  have HOk : Hid (∀ n, n ∈ insP R { R[fr] with par := pa } fr bf → n.Ok S w ∧ ∀ ad, n.ao = some ad → ad.block ≠ p) := by
    refine hide fun n hn => ?_
    rcases hmem n hn with hn | rfl
    · exact ⟨h.node n hn, fun ad e => (h.apart n hn ad e).1⟩
    · have hx := h.node R[fr] (List.getElem_mem hfr)
      exact ⟨⟨hx.an, hx.few, hx.nil, hx.tag, hx.text, hx.at', hx.own⟩, fun ad e => (h.apart R[fr] (List.getElem_mem hfr) ad e).1⟩
  have HL := hide hlen
  clear hA hcell h ha hmem hlen
  have HN : Hid (RN.cells { R[fr] with par := pa } = [.int .i64 R[fr].id, .int .i64 pa, .string R[fr].tag, .int .i64 R[fr].key, .slice R[fr].ao R[fr].an R[fr].ac, .string R[fr].text]) := rfl
  generalize ({ R[fr] with par := pa } : RN) = nn at *
  generalize R[fr] = nd at *
  go_enter Tryz.func55, Tryz.ntmps55
  go_wp2_with (first | (go_at_call 49; refine (unhide HA _ ((unhide HR).below ((Below.refl _ _).alloc (Nat.le_refl _) _))).mono ?_; rintro e w1 ⟨rfl, rfl⟩))
  generalize hw2 : ((w.alloc (.cells #[.int .i64 kd, .int .i64 id, .int .i64 pa, .int .i64 bf, .int .i64 ky, .string tg, .string nme, .string tx] 29)).alloc (.cells #[.int .i64 nd.id, .int .i64 pa, .string nd.tag, .int .i64 nd.key, .slice nd.ao nd.an nd.ac, .string nd.text] 91)) = w2
  have hb2 : Below w.heap.size w w2 := by rw [← hw2]; exact ((Below.refl _ _).alloc (Nat.le_refl _) _).alloc (by simp) _
  have s2 : w2.heap.size = w.heap.size + 2 := by rw [← hw2]; simp
  have p3 : w2.cell? ⟨w.heap.size, 3, none⟩ = some (.int .i64 bf) := by rw [← hw2]; simp [go_sem]
  have m0 : w2.cell? ⟨w.heap.size + 1, 0, none⟩ = some (.int .i64 nd.id) := by rw [← hw2]; simp [go_sem]
  have m1 : w2.cell? ⟨w.heap.size + 1, 1, none⟩ = some (.int .i64 pa) := by rw [← hw2]; simp [go_sem]
  have m2 : w2.cell? ⟨w.heap.size + 1, 2, none⟩ = some (.string nd.tag) := by rw [← hw2]; simp [go_sem]
  have m3 : w2.cell? ⟨w.heap.size + 1, 3, none⟩ = some (.int .i64 nd.key) := by rw [← hw2]; simp [go_sem]
  have m4 : w2.cell? ⟨w.heap.size + 1, 4, none⟩ = some (.slice nd.ao nd.an nd.ac) := by rw [← hw2]; simp [go_sem]
  have m5 : w2.cell? ⟨w.heap.size + 1, 5, none⟩ = some (.string nd.text) := by rw [← hw2]; simp [go_sem]
  have HB2 := hide hb2
  have S2 := hide s2
  have HM : Hid (∀ wr, Below w2.heap.size w2 wr → wr.cell? ⟨p, 0, none⟩ = some (.slice (some ⟨g, 0, none⟩) R.length cap) ∧ wr.frozen? ⟨p, 0, none⟩ = false ∧ wr.cell? ⟨w.heap.size, 3, none⟩ = some (.int .i64 bf) ∧ wr.cell? ⟨w.heap.size + 1, 0, none⟩ = some (.int .i64 nd.id) ∧ wr.cell? ⟨w.heap.size + 1, 1, none⟩ = some (.int .i64 pa) ∧ wr.cell? ⟨w.heap.size + 1, 2, none⟩ = some (.string nd.tag) ∧ wr.cell? ⟨w.heap.size + 1, 3, none⟩ = some (.int .i64 nd.key) ∧ wr.cell? ⟨w.heap.size + 1, 4, none⟩ = some (.slice nd.ao nd.an nd.ac) ∧ wr.cell? ⟨w.heap.size + 1, 5, none⟩ = some (.string nd.text) ∧ ∀ k r, (hk : k < R.length) → r < 6 → wr.cell? ⟨g, k * 6 + r, none⟩ = (R[k]).cells[r]?) := by
    refine hide fun wr hb => ⟨(hb.cell (by simp; omega)).trans ((hb2.cell (by simp; omega)).trans c0), (hb.frozen (by simp; omega)).trans ((hb2.frozen (by simp; omega)).trans f0), (hb.cell (by simp; omega)).trans p3, (hb.cell (by simp; omega)).trans m0, (hb.cell (by simp; omega)).trans m1, (hb.cell (by simp; omega)).trans m2, (hb.cell (by simp; omega)).trans m3, (hb.cell (by simp; omega)).trans m4, (hb.cell (by simp; omega)).trans m5, fun k r hk hr => ?_⟩
    exact (hb.cell (by simp; omega)).trans ((hb2.cell (by simp; omega)).trans (HC.out k r hk hr))
  have lp : p < w2.heap.size := by omega
  have lg : g < w2.heap.size := by omega
  have l0 : w.heap.size < w2.heap.size := by omega
  have l1 : w.heap.size + 1 < w2.heap.size := by omega
  clear hw2 hb2 s2 p3 m0 m1 m2 m3 m4 m5 c0 f0 n0 n1 n2 n3 n4 n5 HA HC
  go_loopw [6, 7] (fun o i wr => ∃ (k : Nat) (q : Value), k ≤ R.length ∧ i = .int .i64 k ∧ q = o ∧ Hid (RowAt wr w2.heap.size q (insTo R nn fr bf k)) ∧ Below w2.heap.size w2 wr) (fun _ i _ => R.length - (intOf i).toNat)
  case atStart => exact ⟨0, _, Nat.zero_le _, rfl, rfl, hide (show RowAt _ _ _ [] from World.ownsRow_nil _ _ _ _), Below.refl _ _⟩
  case round =>
    obtain ⟨k, q, hk, rfl, rfl, hown, hbel⟩ := hrel
    have hLl := insTo_length R nn fr bf k
    have hsz := hbel.size
    obtain ⟨e0, ef, ep, b0, b1, b2, b3, b4, b5, hc⟩ := HM.out _ hbel
    by_cases hlt : k < R.length
    · have d0 : wr.cell? ⟨g, k * 6, none⟩ = some (.int .i64 R[k].id) := hc k 0 hlt (by omega)
      have d1 : wr.cell? ⟨g, k * 6 + 1, none⟩ = some (.int .i64 R[k].par) := hc k 1 hlt (by omega)
      have d2 : wr.cell? ⟨g, k * 6 + 2, none⟩ = some (.string R[k].tag) := hc k 2 hlt (by omega)
      have d3 : wr.cell? ⟨g, k * 6 + 3, none⟩ = some (.int .i64 R[k].key) := hc k 3 hlt (by omega)
      have d4 : wr.cell? ⟨g, k * 6 + 4, none⟩ = some (.slice R[k].ao R[k].an R[k].ac) := hc k 4 hlt (by omega)
      have d5 : wr.cell? ⟨g, k * 6 + 5, none⟩ = some (.string R[k].text) := hc k 5 hlt (by omega)
      have HI : Hid (insTo R nn fr bf (k + 1) = insTo R nn fr bf k ++ (if bf ≠ 0 ∧ R[k].id = bf then [nn] else []) ++ (if k = fr then [] else [R[k]])) := by
        refine hide ?_
        rw [insTo, idAt_lt hlt, drop_one hlt]
      clear hc
      generalize hxk : R[k] = x at *
      have HXk := hide hxk
      clear hxk
      have i1 : (0 : Int) ≤ (k : Int) := by omega
      have i2 : (k : Int) < (R.length : Int) := by omega
      have ig : g ≠ wr.heap.size := by omega
      by_cases hbz : bf = 0
      · have gb : (bf != 0) = false := by simp [hbz]
        have hhit : Hid (¬ (bf ≠ 0 ∧ x.id = bf)) := hide (fun h => h.1 hbz)
        clear hbz
        go_wp2
        go_big_quiet (fail)
        rename_i nq
        generalize hwq : wr.drewN nq = wq
        have hbq : Below w2.heap.size w2 wq := by rw [← hwq]; exact drewN_of hbel nq
        have HO : Hid (RowAt wq w2.heap.size q (insTo R nn fr bf k)) := by rw [← hwq]; exact hide (ownsRow_below hown.out (drewN_of (Below.refl _ _) nq))
        clear hwq hown hbel e0 ef ep b0 b1 b2 b3 b4 b5 d0 d1 d2 d3 d4 d5 hsz ig
        have hsz := hbq.size
        have ig : g ≠ wq.heap.size := by omega
        have il : w.heap.size + 1 ≠ wq.heap.size := by omega
        obtain ⟨e0, ef, ep, b0, b1, b2, b3, b4, b5, hc⟩ := HM.out _ hbq
        have hc0 := hc k 0 hlt (by omega)
        have hc1 := hc k 1 hlt (by omega)
        have hc2 := hc k 2 hlt (by omega)
        have hc3 := hc k 3 hlt (by omega)
        have hc4 := hc k 4 hlt (by omega)
        have hc5 := hc k 5 hlt (by omega)
        rw [HXk.out] at hc0 hc1 hc2 hc3 hc4 hc5
        have d0 : wq.cell? ⟨g, k * 6, none⟩ = some (.int .i64 x.id) := hc0
        have d1 : wq.cell? ⟨g, k * 6 + 1, none⟩ = some (.int .i64 x.par) := hc1
        have d2 : wq.cell? ⟨g, k * 6 + 2, none⟩ = some (.string x.tag) := hc2
        have d3 : wq.cell? ⟨g, k * 6 + 3, none⟩ = some (.int .i64 x.key) := hc3
        have d4 : wq.cell? ⟨g, k * 6 + 4, none⟩ = some (.slice x.ao x.an x.ac) := hc4
        have d5 : wq.cell? ⟨g, k * 6 + 5, none⟩ = some (.string x.text) := hc5
        clear hc hc0 hc1 hc2 hc3 hc4 hc5
        by_cases hkf : k = fr
        · have HY : Hid (insTo R nn fr bf (k + 1) = insTo R nn fr bf k) := by rw [HI.out, if_neg hhit.out]; simp [Hid, hkf]
          rw [← HY.out] at HO
          clear HI HY
          have kb : ((k : Int) != (fr : Int)) = false := by simp; omega
          go_wp2
          go_roundw
          case rel => exact ⟨k + 1, _, by omega, by go_num, rfl, HO, hbq⟩
          case measure => simp [intOf]; omega
        · have HY : Hid (insTo R nn fr bf (k + 1) = insTo R nn fr bf k ++ [x]) := by rw [HI.out, if_neg hhit.out]; simp [Hid, hkf]
          clear HI
          have kb : ((k : Int) != (fr : Int)) = true := by simp; omega
          go_wp2_with ((at_builtin; refine wpList_app _ rfl (.tmp 54) (.tmp 62) 87 rfl w2.heap.size 91 i0 _ 6 80 Tryz.underlying87 hi hz0 hz1 hz2 rfl q _ _ rfl ((unhide HO).alloc _) (some ⟨wq.heap.size, 0, none⟩) 1 1 [.int .i64 x.id, .int .i64 x.par, .string x.tag, .int .i64 x.key, .slice x.ao x.an x.ac, .string x.text] rfl (by simp) rfl (cells_new _ _ _) (by simp [Value.oneCell']) (by omega) (by omega) (by simp; omega) ?_; intro q3 w3 ho3 hg3 _))
          have hb3 := (hbq.alloc hsz (.cells #[.int .i64 x.id, .int .i64 x.par, .string x.tag, .int .i64 x.key, .slice x.ao x.an x.ac, .string x.text] 91)).grown hg3.out.by (by simp; omega) (fun j hj => (World.ownsRow.lt (unhide HO) j hj).1)
          have HO3 := hide (RowAt.of_app (n := x) ho3.out rfl)
          rw [← HY.out] at HO3
          clear ho3 hg3 HO
          go_wp2
          go_roundw
          case rel => exact ⟨k + 1, _, by omega, by go_num, rfl, HO3, hb3⟩
          case measure => simp [intOf]; omega
      · have gb : (bf != 0) = true := by simp [hbz]
        by_cases hxi : x.id = bf
        · have gx : (x.id == bf) = true := by simp [hxi]
          have hhit : Hid (bf ≠ 0 ∧ x.id = bf) := hide ⟨hbz, hxi⟩
          clear hxi
          go_wp2
          go_big_quiet (fail)
          rename_i nq
          generalize hwq : wr.drewN nq = wq
          have hbq : Below w2.heap.size w2 wq := by rw [← hwq]; exact drewN_of hbel nq
          have HO : Hid (RowAt wq w2.heap.size q (insTo R nn fr bf k)) := by rw [← hwq]; exact hide (ownsRow_below hown.out (drewN_of (Below.refl _ _) nq))
          clear hwq hown hbel e0 ef ep b0 b1 b2 b3 b4 b5 d0 d1 d2 d3 d4 d5 hsz ig
          have hsz := hbq.size
          have ig : g ≠ wq.heap.size := by omega
          have il : w.heap.size + 1 ≠ wq.heap.size := by omega
          obtain ⟨e0, ef, ep, b0, b1, b2, b3, b4, b5, hc⟩ := HM.out _ hbq
          have hc0 := hc k 0 hlt (by omega)
          have hc1 := hc k 1 hlt (by omega)
          have hc2 := hc k 2 hlt (by omega)
          have hc3 := hc k 3 hlt (by omega)
          have hc4 := hc k 4 hlt (by omega)
          have hc5 := hc k 5 hlt (by omega)
          rw [HXk.out] at hc0 hc1 hc2 hc3 hc4 hc5
          have d0 : wq.cell? ⟨g, k * 6, none⟩ = some (.int .i64 x.id) := hc0
          have d1 : wq.cell? ⟨g, k * 6 + 1, none⟩ = some (.int .i64 x.par) := hc1
          have d2 : wq.cell? ⟨g, k * 6 + 2, none⟩ = some (.string x.tag) := hc2
          have d3 : wq.cell? ⟨g, k * 6 + 3, none⟩ = some (.int .i64 x.key) := hc3
          have d4 : wq.cell? ⟨g, k * 6 + 4, none⟩ = some (.slice x.ao x.an x.ac) := hc4
          have d5 : wq.cell? ⟨g, k * 6 + 5, none⟩ = some (.string x.text) := hc5
          clear hc hc0 hc1 hc2 hc3 hc4 hc5
          by_cases hkf : k = fr
          · have HY : Hid (insTo R nn fr bf (k + 1) = insTo R nn fr bf k ++ [nn]) := by rw [HI.out, if_pos hhit.out]; simp [Hid, hkf]
            have kb : ((k : Int) != (fr : Int)) = false := by simp; omega
            clear HI
            go_wp2_with ((at_builtin; refine wpList_app _ rfl (.tmp 47) (.tmp 49) 87 rfl w2.heap.size 91 i0 _ 6 80 Tryz.underlying87 hi hz0 hz1 hz2 rfl q _ _ rfl ((unhide HO).alloc _) (some ⟨wq.heap.size, 0, none⟩) 1 1 [.int .i64 nd.id, .int .i64 pa, .string nd.tag, .int .i64 nd.key, .slice nd.ao nd.an nd.ac, .string nd.text] rfl (by simp) rfl (cells_new _ _ _) (by simp [Value.oneCell']) (by omega) (by omega) (by simp; omega) ?_; intro q4 w4 ho4 hg4 _; have hb4 := hide ((hbq.alloc hsz (.cells #[.int .i64 nd.id, .int .i64 pa, .string nd.tag, .int .i64 nd.key, .slice nd.ao nd.an nd.ac, .string nd.text] 91)).grown (unhide hg4).by (by simp; omega) (fun j hj => (World.ownsRow.lt (unhide HO) j hj).1)); have HO4 := hide (RowAt.of_app (n := nn) (unhide ho4) (unhide HN)); have hs4 := (unhide hb4).size; have ig4 : g ≠ w4.heap.size := (by omega); obtain ⟨e4, _, _, _, _, _, _, _, _, hc4⟩ := unhide HM _ (unhide hb4); have z0 := (hc4 k 0 hlt (by omega)).trans (congrArg (fun (y : RN) => y.cells[0]?) (unhide HXk)); have z1 := (hc4 k 1 hlt (by omega)).trans (congrArg (fun (y : RN) => y.cells[1]?) (unhide HXk)); have z2 := (hc4 k 2 hlt (by omega)).trans (congrArg (fun (y : RN) => y.cells[2]?) (unhide HXk)); have z3 := (hc4 k 3 hlt (by omega)).trans (congrArg (fun (y : RN) => y.cells[3]?) (unhide HXk)); have z4 := (hc4 k 4 hlt (by omega)).trans (congrArg (fun (y : RN) => y.cells[4]?) (unhide HXk)); have z5 := (hc4 k 5 hlt (by omega)).trans (congrArg (fun (y : RN) => y.cells[5]?) (unhide HXk)); have y0 : w4.cell? ⟨g, k * 6, none⟩ = some (.int .i64 x.id) := z0; have y1 : w4.cell? ⟨g, k * 6 + 1, none⟩ = some (.int .i64 x.par) := z1; have y2 : w4.cell? ⟨g, k * 6 + 2, none⟩ = some (.string x.tag) := z2; have y3 : w4.cell? ⟨g, k * 6 + 3, none⟩ = some (.int .i64 x.key) := z3; have y4 : w4.cell? ⟨g, k * 6 + 4, none⟩ = some (.slice x.ao x.an x.ac) := z4; have y5 : w4.cell? ⟨g, k * 6 + 5, none⟩ = some (.string x.text) := z5; clear hc4 z0 z1 z2 z3 z4 z5 ho4 hg4 HO e0 ef ep b0 b1 b2 b3 b4 b5 d0 d1 d2 d3 d4 d5))
            rw [← HY.out] at HO4
            go_wp2
            go_roundw
            case rel => exact ⟨k + 1, _, by omega, by go_num, rfl, HO4, hb4.out⟩
            case measure => simp [intOf]; omega
          · have HY : Hid (insTo R nn fr bf (k + 1) = insTo R nn fr bf k ++ [nn] ++ [x]) := by rw [HI.out, if_pos hhit.out]; simp [Hid, hkf]
            have kb : ((k : Int) != (fr : Int)) = true := by simp; omega
            have hL4 : (insTo R nn fr bf k ++ [nn]).length ≤ 2 * k + 1 := by simp; omega
            clear HI
            go_wp2_with (first | (at_builtin; refine wpList_app _ rfl (.tmp 47) (.tmp 49) 87 rfl w2.heap.size 91 i0 _ 6 80 Tryz.underlying87 hi hz0 hz1 hz2 rfl q _ _ rfl ((unhide HO).alloc _) (some ⟨wq.heap.size, 0, none⟩) 1 1 [.int .i64 nd.id, .int .i64 pa, .string nd.tag, .int .i64 nd.key, .slice nd.ao nd.an nd.ac, .string nd.text] rfl (by simp) rfl (cells_new _ _ _) (by simp [Value.oneCell']) (by omega) (by omega) (by simp; omega) ?_; intro q4 w4 ho4 hg4 _; have hb4 := hide ((hbq.alloc hsz (.cells #[.int .i64 nd.id, .int .i64 pa, .string nd.tag, .int .i64 nd.key, .slice nd.ao nd.an nd.ac, .string nd.text] 91)).grown (unhide hg4).by (by simp; omega) (fun j hj => (World.ownsRow.lt (unhide HO) j hj).1)); have HO4 := hide (RowAt.of_app (n := nn) (unhide ho4) (unhide HN)); have hs4 := (unhide hb4).size; have ig4 : g ≠ w4.heap.size := (by omega); obtain ⟨e4, _, _, _, _, _, _, _, _, hc4⟩ := unhide HM _ (unhide hb4); have z0 := (hc4 k 0 hlt (by omega)).trans (congrArg (fun (y : RN) => y.cells[0]?) (unhide HXk)); have z1 := (hc4 k 1 hlt (by omega)).trans (congrArg (fun (y : RN) => y.cells[1]?) (unhide HXk)); have z2 := (hc4 k 2 hlt (by omega)).trans (congrArg (fun (y : RN) => y.cells[2]?) (unhide HXk)); have z3 := (hc4 k 3 hlt (by omega)).trans (congrArg (fun (y : RN) => y.cells[3]?) (unhide HXk)); have z4 := (hc4 k 4 hlt (by omega)).trans (congrArg (fun (y : RN) => y.cells[4]?) (unhide HXk)); have z5 := (hc4 k 5 hlt (by omega)).trans (congrArg (fun (y : RN) => y.cells[5]?) (unhide HXk)); have y0 : w4.cell? ⟨g, k * 6, none⟩ = some (.int .i64 x.id) := z0; have y1 : w4.cell? ⟨g, k * 6 + 1, none⟩ = some (.int .i64 x.par) := z1; have y2 : w4.cell? ⟨g, k * 6 + 2, none⟩ = some (.string x.tag) := z2; have y3 : w4.cell? ⟨g, k * 6 + 3, none⟩ = some (.int .i64 x.key) := z3; have y4 : w4.cell? ⟨g, k * 6 + 4, none⟩ = some (.slice x.ao x.an x.ac) := z4; have y5 : w4.cell? ⟨g, k * 6 + 5, none⟩ = some (.string x.text) := z5; clear hc4 z0 z1 z2 z3 z4 z5 ho4 hg4 HO e0 ef ep b0 b1 b2 b3 b4 b5 d0 d1 d2 d3 d4 d5) | (at_builtin; refine wpList_app _ rfl (.tmp 54) (.tmp 62) 87 rfl w2.heap.size 91 i0 _ 6 80 Tryz.underlying87 hi hz0 hz1 hz2 rfl q4 _ _ rfl ((unhide HO4).alloc _) (some ⟨w4.heap.size, 0, none⟩) 1 1 [.int .i64 x.id, .int .i64 x.par, .string x.tag, .int .i64 x.key, .slice x.ao x.an x.ac, .string x.text] rfl (by simp) rfl (cells_new _ _ _) (by simp [Value.oneCell']) (by omega) (by omega) (by simp; omega) ?_; intro q3 w3 ho3 hg3 _))
            have hb3 := ((unhide hb4).alloc hs4 (.cells #[.int .i64 x.id, .int .i64 x.par, .string x.tag, .int .i64 x.key, .slice x.ao x.an x.ac, .string x.text] 91)).grown hg3.out.by (by simp; omega) (fun j hj => (World.ownsRow.lt (unhide HO4) j hj).1)
            have HO3 := hide (RowAt.of_app (n := x) ho3.out rfl)
            rw [← HY.out] at HO3
            clear ho3 hg3 HO4
            go_wp2
            go_roundw
            case rel => exact ⟨k + 1, _, by omega, by go_num, rfl, HO3, hb3⟩
            case measure => simp [intOf]; omega
        · have gx : (x.id == bf) = false := by simp [hxi]
          have hhit : Hid (¬ (bf ≠ 0 ∧ x.id = bf)) := hide (fun h => hxi h.2)
          clear hxi
          go_wp2
          go_big_quiet (fail)
          rename_i nq
          generalize hwq : wr.drewN nq = wq
          have hbq : Below w2.heap.size w2 wq := by rw [← hwq]; exact drewN_of hbel nq
          have HO : Hid (RowAt wq w2.heap.size q (insTo R nn fr bf k)) := by rw [← hwq]; exact hide (ownsRow_below hown.out (drewN_of (Below.refl _ _) nq))
          clear hwq hown hbel e0 ef ep b0 b1 b2 b3 b4 b5 d0 d1 d2 d3 d4 d5 hsz ig
          have hsz := hbq.size
          have ig : g ≠ wq.heap.size := by omega
          have il : w.heap.size + 1 ≠ wq.heap.size := by omega
          obtain ⟨e0, ef, ep, b0, b1, b2, b3, b4, b5, hc⟩ := HM.out _ hbq
          have hc0 := hc k 0 hlt (by omega)
          have hc1 := hc k 1 hlt (by omega)
          have hc2 := hc k 2 hlt (by omega)
          have hc3 := hc k 3 hlt (by omega)
          have hc4 := hc k 4 hlt (by omega)
          have hc5 := hc k 5 hlt (by omega)
          rw [HXk.out] at hc0 hc1 hc2 hc3 hc4 hc5
          have d0 : wq.cell? ⟨g, k * 6, none⟩ = some (.int .i64 x.id) := hc0
          have d1 : wq.cell? ⟨g, k * 6 + 1, none⟩ = some (.int .i64 x.par) := hc1
          have d2 : wq.cell? ⟨g, k * 6 + 2, none⟩ = some (.string x.tag) := hc2
          have d3 : wq.cell? ⟨g, k * 6 + 3, none⟩ = some (.int .i64 x.key) := hc3
          have d4 : wq.cell? ⟨g, k * 6 + 4, none⟩ = some (.slice x.ao x.an x.ac) := hc4
          have d5 : wq.cell? ⟨g, k * 6 + 5, none⟩ = some (.string x.text) := hc5
          clear hc hc0 hc1 hc2 hc3 hc4 hc5
          by_cases hkf : k = fr
          · have HY : Hid (insTo R nn fr bf (k + 1) = insTo R nn fr bf k) := by rw [HI.out, if_neg hhit.out]; simp [Hid, hkf]
            rw [← HY.out] at HO
            clear HI HY
            have kb : ((k : Int) != (fr : Int)) = false := by simp; omega
            go_wp2
            go_roundw
            case rel => exact ⟨k + 1, _, by omega, by go_num, rfl, HO, hbq⟩
            case measure => simp [intOf]; omega
          · have HY : Hid (insTo R nn fr bf (k + 1) = insTo R nn fr bf k ++ [x]) := by rw [HI.out, if_neg hhit.out]; simp [Hid, hkf]
            clear HI
            have kb : ((k : Int) != (fr : Int)) = true := by simp; omega
            go_wp2_with ((at_builtin; refine wpList_app _ rfl (.tmp 54) (.tmp 62) 87 rfl w2.heap.size 91 i0 _ 6 80 Tryz.underlying87 hi hz0 hz1 hz2 rfl q _ _ rfl ((unhide HO).alloc _) (some ⟨wq.heap.size, 0, none⟩) 1 1 [.int .i64 x.id, .int .i64 x.par, .string x.tag, .int .i64 x.key, .slice x.ao x.an x.ac, .string x.text] rfl (by simp) rfl (cells_new _ _ _) (by simp [Value.oneCell']) (by omega) (by omega) (by simp; omega) ?_; intro q3 w3 ho3 hg3 _))
            have hb3 := (hbq.alloc hsz (.cells #[.int .i64 x.id, .int .i64 x.par, .string x.tag, .int .i64 x.key, .slice x.ao x.an x.ac, .string x.text] 91)).grown hg3.out.by (by simp; omega) (fun j hj => (World.ownsRow.lt (unhide HO) j hj).1)
            have HO3 := hide (RowAt.of_app (n := x) ho3.out rfl)
            rw [← HY.out] at HO3
            clear ho3 hg3 HO
            go_wp2
            go_roundw
            case rel => exact ⟨k + 1, _, by omega, by go_num, rfl, HO3, hb3⟩
            case measure => simp [intOf]; omega
    · have hkn : k = R.length := by omega
      subst hkn
      by_cases hbz : bf = 0
      · have HY : Hid (insP R nn fr bf = insTo R nn fr bf R.length ++ [nn]) := by simp [Hid, insP, hbz]
        have gb : (bf == 0) = true := by simp [hbz]
        clear hbz
        have il : w.heap.size + 1 ≠ wr.heap.size := by omega
        go_wp2_with ((at_builtin; refine wpList_app _ rfl (.tmp 67) (.tmp 69) 87 rfl w2.heap.size 91 i0 _ 6 80 Tryz.underlying87 hi hz0 hz1 hz2 rfl q _ _ rfl ((unhide hown).alloc _) (some ⟨wr.heap.size, 0, none⟩) 1 1 [.int .i64 nd.id, .int .i64 pa, .string nd.tag, .int .i64 nd.key, .slice nd.ao nd.an nd.ac, .string nd.text] rfl (by simp) rfl (cells_new _ _ _) (by simp [Value.oneCell']) (by omega) (by omega) (by simp; omega) ?_; intro q3 w3 ho3 hg3 _; obtain ⟨a3, c3, rfl⟩ := own_shape (unhide ho3); have hb3 := hide ((hbel.alloc hsz (.cells #[.int .i64 nd.id, .int .i64 pa, .string nd.tag, .int .i64 nd.key, .slice nd.ao nd.an nd.ac, .string nd.text] 91)).grown (unhide hg3).by (by simp; omega) (fun j hj => (World.ownsRow.lt (unhide hown) j hj).1)); have HO3 := hide (RowAt.of_app (n := nn) (unhide ho3) (unhide HN)); obtain ⟨e3, f3, _⟩ := unhide HM _ (unhide hb3); clear ho3 hg3 hown))
        go_wp2
        go_end0
        have HB3 := HB2.out.trans (hb3.out.mono HB2.out.size)
        have ho := own_ge HO3.out HB2.out.size
        rw [← HY.out] at ho
        have hz := HR.out.relaid HB3 ho HL.out HOk.out
        exact ⟨rfl, _, hz.1, hz.2⟩
      · have HY : Hid (insP R nn fr bf = insTo R nn fr bf R.length) := by simp [Hid, insP, hbz]
        have gb : (bf == 0) = false := by simp [hbz]
        obtain ⟨a3, c3, rfl⟩ := own_shape hown.out
        go_wp2
        go_end0
        have HB3 := HB2.out.trans (hbel.mono HB2.out.size)
        have hz := HR.out.relaid HB3 (own_ge hown.out HB2.out.size) (by rw [← HY.out]; exact HL.out) (by rw [← HY.out]; exact HOk.out)
        rw [HY.out]
        exact ⟨rfl, _, hz.1, hz.2⟩
end Go.Proofs.YtobgcaemnpkbmaaGreat
namespace Go.Proofs.YtobgcaemnpkbmaaGreat
open Go.RowKit
def goneB (W : List (Nat × Int)) (i : Nat) : Bool := W.any fun x => x.1 == i
def rmTo (R : List RN) (W : List (Nat × Int)) : Nat → List RN
  | 0 => []
  | k + 1 => rmTo R W k ++ (if goneB W k then [] else (R.drop k).take 1)
def rmP (R : List RN) (W : List (Nat × Int)) : List RN := rmTo R W R.length
theorem rmTo_length (R : List RN) (W : List (Nat × Int)) : ∀ k, (rmTo R W k).length ≤ k := by
  intro k
  induction k with
  | zero => exact Nat.le_refl _
  | succ k ih =>
    rw [rmTo, List.length_append]
    have h2 : (if goneB W k then [] else (R.drop k).take 1).length ≤ 1 := by split <;> simp; omega
    omega
theorem rmTo_mem {R : List RN} {W : List (Nat × Int)} {k : Nat} {n : RN} (h : n ∈ rmTo R W k) : n ∈ R := by
  induction k with
  | zero => simp [rmTo] at h
  | succ k ih =>
    rw [rmTo] at h
    rcases List.mem_append.1 h with h | h
    · exact ih h
    · split at h
      · simp at h
      · exact List.mem_of_mem_drop (List.mem_of_mem_take h)
def goneTo (W : List (Nat × Int)) (i m : Nat) : Bool := goneB (W.take m) i
theorem goneTo_zero (W : List (Nat × Int)) (i : Nat) : goneTo W i 0 = false := by simp [goneTo, goneB]
theorem goneTo_all (W : List (Nat × Int)) (i : Nat) : goneTo W i W.length = goneB W i := by simp [goneTo]
theorem goneTo_succ {W : List (Nat × Int)} {i m : Nat} (h : m < W.length) : goneTo W i (m + 1) = (goneTo W i m || (W[m].1 == i)) := by
  unfold goneTo goneB; rw [List.take_succ_eq_append_getElem h, List.any_append]; simp
set_option maxRecDepth 100000 in
set_option maxHeartbeats 4000000 in
theorem remove_any (S : Nat → Prop) (p : Nat) (R : List RN) (last : Int) (v : Value) (r f : Nat) (hf : f ≤ 1099511627776) (hfit : fitP R f r) (hlen : (walkP R f r 0).length ≤ 1099511627776) (w : World) (h : RefAt S w p R last v) :
    Calls Tryz.prog 56 #[.pointer (some ⟨p, 0, none⟩), .int .i64 r] w fun e w' => e = .returned (.tuple #[]) ∧ ∃ v', RefAt (andNew S w w') w' p (rmP R (walkP R f r 0)) last v' ∧ Touch (fun b => b = p) w w' := by
  obtain ⟨i0, hi, hz0, hz1, hz2⟩ := info_parts refInfo
  have hpos := walkP_pos (d := 0) hfit
  have hRl : 0 < R.length := by
    cases f with
    | zero => exact absurd hfit (by simp [fitP])
    | succ f => exact Nat.lt_of_le_of_lt (Nat.zero_le _) hfit.1
  have hW : ∀ w, RefAt S w p R last v → Calls Tryz.prog 48 #[.pointer (some ⟨p, 0, none⟩), .int .i64 r, .int .i64 0] w fun e w' => ∃ g1 c1 a2 c2, e = .returned (.tuple #[.slice (some ⟨g1, 0, none⟩) (walkP R f r 0).length c1, .slice a2 (walkP R f r 0).length c2]) ∧
      (walkP R f r 0).length ≤ c1 ∧ g1 < w'.heap.size ∧ (∀ k, (hk : k < (walkP R f r 0).length) → w'.cell? ⟨g1, k, none⟩ = some (.int .i64 ((walkP R f r 0)[k].1 : Nat))) ∧ Below w.heap.size w w' := by
    intro w hw
    refine (walk_any S p R last v f r 0 w hfit (by omega) (by omega) hlen hw).mono ?_
    rintro e w' ⟨a1, c1, a2, c2, rfl, hV⟩
    obtain ⟨g1, rfl, hc, _, hg, hcell⟩ := hV.o1.some (by rw [places_length]; exact hpos)
    refine ⟨g1, c1, a2, c2, rfl, hc, hg, fun k hk => ?_, hV.bel⟩
    rw [hcell k (by rw [places_length]; exact hk)]
    unfold places
    rw [List.getElem?_map, List.getElem?_eq_getElem hk]
    rfl
  have HW := hide hW
  have HR := hide h
  have HL : Hid ((rmP R (walkP R f r 0)).length ≤ 800) := hide (Nat.le_trans (rmTo_length _ _ _) h.few)
  have HOk : Hid (∀ n, n ∈ rmP R (walkP R f r 0) → n.Ok S w ∧ ∀ ad, n.ao = some ad → ad.block ≠ p) := hide fun n hn => ⟨h.node n (rmTo_mem hn), fun ad e => (h.apart n (rmTo_mem hn) ad e).1⟩
  have hp := h.lt
  have hfew := h.few
  clear hW h hfit
  generalize walkP R f r 0 = W at *
  go_enter Tryz.func56, Tryz.ntmps56
  go_wp2_with (first | (go_at_call 48; refine (unhide HW _ (unhide HR)).mono ?_; rintro e w2 ⟨g1, d1, a2, d2, rfl, hc1, hg1, hcell1, hb2⟩))
  have HR2 := hide (HR.out.below hb2)
  have HB2 := hide hb2
  obtain ⟨g, cap, rfl, hcc, hg, _, _, hcell⟩ := HR2.out.at hRl
  have hp2 := HR2.out.lt
  have HM : Hid (∀ wr, Below w2.heap.size w2 wr → wr.cell? ⟨p, 0, none⟩ = some (.slice (some ⟨g, 0, none⟩) R.length cap) ∧ wr.frozen? ⟨p, 0, none⟩ = false ∧ (∀ k r, (hk : k < R.length) → r < 6 → wr.cell? ⟨g, k * 6 + r, none⟩ = (R[k]).cells[r]?) ∧ ∀ k, (hk : k < W.length) → wr.cell? ⟨g1, k, none⟩ = some (.int .i64 (W[k].1 : Nat))) :=
    hide fun wr hb => ⟨(hb.cell (p := ⟨p, _, none⟩) hp2).trans HR2.out.c0, (hb.frozen (p := ⟨p, _, none⟩) hp2).trans HR2.out.f0, fun k r hk hr => (hb.cell (p := ⟨g, _, none⟩) hg).trans (hcell k r hk hr), fun k hk => (hb.cell (p := ⟨g1, _, none⟩) hg1).trans (hcell1 k hk)⟩
  clear hcell1 HW hb2 hcell
  go_loopw [6, 7, 8, 9] (fun o i _ _ wr => ∃ (k : Nat) (q : Value), k ≤ R.length ∧ i = .int .i64 k ∧ q = o ∧ Hid (RowAt wr w2.heap.size q (rmTo R W k)) ∧ Below w2.heap.size w2 wr) (fun _ i _ _ _ => R.length - (intOf i).toNat)
  case atStart => exact ⟨0, _, Nat.zero_le _, rfl, rfl, hide (show RowAt _ _ _ [] from World.ownsRow_nil _ _ _ _), Below.refl _ _⟩
  case round =>
    obtain ⟨k, q, hk, rfl, rfl, hown, hbel⟩ := hrel
    have hLl := rmTo_length R W k
    have hsz := hbel.size
    obtain ⟨e0, ef, hc, hcw⟩ := HM.out _ hbel
    by_cases hlt : k < R.length
    · have HCW := hide hcw
      have d0 : wr.cell? ⟨g, k * 6, none⟩ = some (.int .i64 R[k].id) := hc k 0 hlt (by omega)
      have d1' : wr.cell? ⟨g, k * 6 + 1, none⟩ = some (.int .i64 R[k].par) := hc k 1 hlt (by omega)
      have d2' : wr.cell? ⟨g, k * 6 + 2, none⟩ = some (.string R[k].tag) := hc k 2 hlt (by omega)
      have d3 : wr.cell? ⟨g, k * 6 + 3, none⟩ = some (.int .i64 R[k].key) := hc k 3 hlt (by omega)
      have d4 : wr.cell? ⟨g, k * 6 + 4, none⟩ = some (.slice R[k].ao R[k].an R[k].ac) := hc k 4 hlt (by omega)
      have d5 : wr.cell? ⟨g, k * 6 + 5, none⟩ = some (.string R[k].text) := hc k 5 hlt (by omega)
      have HI : Hid (rmTo R W (k + 1) = rmTo R W k ++ (if goneB W k then [] else [R[k]])) := by refine hide ?_; rw [rmTo, drop_one hlt]
      clear hc hcw
      generalize R[k] = x at *
      have ig : g ≠ wr.heap.size := by omega
      go_wp2_with fail
      go_loopw [8, 9] (fun b i wi => ∃ m : Nat, m ≤ W.length ∧ b = .bool (!goneTo W k m) ∧ i = .int .i64 m ∧ wi = wr) (fun _ i _ => W.length - (intOf i).toNat)
      case atStart => exact ⟨0, Nat.zero_le _, by rw [goneTo_zero]; rfl, rfl, rfl⟩
      case round =>
        obtain ⟨m, hm, rfl, rfl, rfl⟩ := hrel
        by_cases hmt : m < W.length
        · have ew := HCW.out m hmt
          have HG := hide (goneTo_succ (i := k) hmt)
          have i1 : (0 : Int) ≤ (m : Int) := by omega
          have i2 : (m : Int) < (W.length : Int) := by omega
          generalize W[m].1 = pl at *
          cases hgo : goneTo W k m with
          | true =>
            rw [hgo] at HG
            have HG' : Hid (goneTo W k (m + 1) = true) := by simpa [Hid] using HG
            clear HG hgo
            go_wp2_with fail
            go_roundw
            case rel => exact ⟨m + 1, by omega, by rw [HG'.out]; rfl, by go_num, trivial⟩
            case measure => simp [intOf]; omega
          | false =>
            rw [hgo] at HG
            by_cases hpl : pl = k
            · have HG' : Hid (goneTo W k (m + 1) = true) := by simpa [Hid, hpl] using HG
              have pb : ((pl : Int) != (k : Int)) = false := by simp; omega
              clear HG hgo hpl
              go_wp2_with fail
              go_roundw
              case rel => exact ⟨m + 1, by omega, by rw [HG'.out]; rfl, by go_num, trivial⟩
              case measure => simp [intOf]; omega
            · have e : (pl == k) = false := by simp [hpl]
              have HG' : Hid (goneTo W k (m + 1) = false) := by rw [e] at HG; exact HG
              have pb : ((pl : Int) != (k : Int)) = true := by simp; omega
              clear HG hgo hpl e
              go_wp2_with fail
              go_roundw
              case rel => exact ⟨m + 1, by omega, by rw [HG'.out]; rfl, by go_num, trivial⟩
              case measure => simp [intOf]; omega
        · have hmn : m = W.length := by omega
          have HG : Hid (goneTo W k m = goneB W k) := by rw [hmn]; exact goneTo_all W k
          clear hmn
          cases hgo : goneB W k with
          | true =>
            rw [hgo] at HG
            have HY : Hid (rmTo R W (k + 1) = rmTo R W k) := by rw [HI.out, hgo]; simp [Hid]
            rw [← HY.out] at hown
            rw [HG.out] at *
            clear HI HY hgo HG
            go_wp2_with fail
            go_roundw
            case rel => exact ⟨k + 1, _, by omega, by go_num, rfl, hown, hbel⟩
            case measure => simp [intOf]; omega
          | false =>
            have HY : Hid (rmTo R W (k + 1) = rmTo R W k ++ [x]) := by rw [HI.out, hgo]; simp [Hid]
            rw [hgo] at HG
            rw [HG.out] at *
            clear HI hgo HG
            go_wp2_with ((at_builtin; refine wpList_app _ rfl (.tmp 41) (.tmp 49) 87 rfl w2.heap.size 91 i0 _ 6 80 Tryz.underlying87 hi hz0 hz1 hz2 rfl q _ _ rfl ((unhide hown).alloc _) (some ⟨_, 0, none⟩) 1 1 [.int .i64 x.id, .int .i64 x.par, .string x.tag, .int .i64 x.key, .slice x.ao x.an x.ac, .string x.text] rfl (by simp) rfl (cells_new _ _ _) (by simp [Value.oneCell']) (by omega) (by omega) (by simp; omega) ?_; intro q3 w3 ho3 hg3 _))
            have hb3 := (hbel.alloc hsz (.cells #[.int .i64 x.id, .int .i64 x.par, .string x.tag, .int .i64 x.key, .slice x.ao x.an x.ac, .string x.text] 91)).grown hg3.out.by (by simp; omega) (fun j hj => (World.ownsRow.lt (unhide hown) j hj).1)
            have HO3 := hide (RowAt.of_app (n := x) ho3.out rfl)
            rw [← HY.out] at HO3
            clear ho3 hg3 hown
            go_wp2_with fail
            go_roundw
            case rel => exact ⟨k + 1, _, by omega, by go_num, rfl, HO3, hb3⟩
            case measure => simp [intOf]; omega
    · have hkn : k = R.length := by omega
      subst hkn
      obtain ⟨a3, c3, rfl⟩ := own_shape hown.out
      go_wp2_with fail
      go_end0
      have HB3 := HB2.out.trans (hbel.mono HB2.out.size)
      have hz := HR.out.relaid HB3 (own_ge hown.out HB2.out.size) HL.out HOk.out
      exact ⟨rfl, _, hz.1, hz.2⟩
end Go.Proofs.YtobgcaemnpkbmaaGreat
namespace Go.Proofs.YtobgcaemnpkbmaaGreat
open Go.RowKit
theorem Ids.of_nodup {R : List RN} (hp : ∀ n, n ∈ R → 0 < n.id) (h : (R.map (·.id)).Nodup) : Ids R := by
  refine ⟨hp, fun i j hi hj e => ?_⟩
  have hpw := List.pairwise_iff_getElem.1 h
  rcases Nat.lt_trichotomy i j with hij | hij | hij
  · exact absurd (by rw [List.getElem_map, List.getElem_map]; exact e) (hpw i j (by simpa using hi) (by simpa using hj) hij)
  · exact hij
  · exact absurd (by rw [List.getElem_map, List.getElem_map]; exact e.symm) (hpw j i (by simpa using hj) (by simpa using hi) hij)
theorem Ids.nodup {R : List RN} (h : Ids R) : (R.map (·.id)).Nodup := by
  refine List.pairwise_iff_getElem.2 fun i j hi hj hij e => ?_
  have := h.inj i j (by simpa using hi) (by simpa using hj) (by simpa using e)
  omega
def restTo (R : List RN) (fr : Nat) : Nat → List RN
  | 0 => []
  | k + 1 => restTo R fr k ++ (if k = fr then [] else (R.drop k).take 1)
theorem rest_perm {R : List RN} {fr : Nat} : ∀ k, k ≤ R.length → (R.take k).Perm (restTo R fr k ++ (if h : fr < k ∧ fr < R.length then [R[fr]'h.2] else [])) := by
  intro k
  induction k with
  | zero => intro _; simp [restTo]
  | succ k ih =>
    intro hk
    have ih := ih (by omega)
    rw [List.take_succ_eq_append_getElem (by omega), restTo]
    by_cases h : k = fr
    · subst h
      rw [if_pos rfl, dif_pos ⟨by omega, by omega⟩]
      rw [dif_neg (by omega), List.append_nil] at ih
      rw [List.append_nil]
      exact ih.append_right [R[k]]
    · rw [if_neg h, drop_one (by omega)]
      by_cases h2 : fr < k
      · rw [dif_pos ⟨by omega, by omega⟩] at ih
        rw [dif_pos ⟨by omega, by omega⟩]
        refine (ih.append_right [R[k]]).trans ?_
        rw [List.append_assoc, List.append_assoc]
        exact List.Perm.append_left _ (List.perm_append_comm)
      · rw [dif_neg (by omega), List.append_nil] at ih
        rw [dif_neg (by omega), List.append_nil]
        exact ih.append_right [R[k]]
theorem ins_perm {R : List RN} {n : RN} {fr : Nat} {bf : Int} (hI : Ids R) : ∀ k, k ≤ R.length → (insTo R n fr bf k).Perm (restTo R fr k ++ (if bf ≠ 0 ∧ ∃ i, i < k ∧ idAt R i = bf then [n] else [])) := by
  intro k
  induction k with
  | zero => intro _; simp [insTo, restTo]
  | succ k ih =>
    intro hk
    have ih := ih (by omega)
    rw [insTo, restTo]
    by_cases hb : bf ≠ 0 ∧ idAt R k = bf
    · have hno : ¬ (bf ≠ 0 ∧ ∃ i, i < k ∧ idAt R i = bf) := fun ⟨_, i, hi, e⟩ => by
        have := hI.inj i k (by omega) (by omega) (by rw [← idAt_lt (by omega), ← idAt_lt (by omega), e, hb.2])
        omega
      rw [if_neg hno, List.append_nil] at ih
      have hyes : bf ≠ 0 ∧ ∃ i, i < k + 1 ∧ idAt R i = bf := ⟨hb.1, k, by omega, hb.2⟩
      rw [if_pos hb, if_pos hyes, List.append_assoc, List.append_assoc]
      exact ih.append List.perm_append_comm
    · rw [if_neg hb, List.append_nil]
      have he : (bf ≠ 0 ∧ ∃ i, i < k + 1 ∧ idAt R i = bf) ↔ (bf ≠ 0 ∧ ∃ i, i < k ∧ idAt R i = bf) := by
        constructor
        · rintro ⟨h0, i, hi, e⟩
          refine ⟨h0, i, ?_, e⟩
          by_cases hik : i = k
          · subst hik; exact absurd ⟨h0, e⟩ hb
          · omega
        · rintro ⟨h0, i, hi, e⟩
          exact ⟨h0, i, by omega, e⟩
      simp only [he]
      refine (ih.append_right _).trans ?_
      rw [List.append_assoc, List.append_assoc]
      exact List.Perm.append_left _ List.perm_append_comm
theorem insP_perm {R : List RN} {n : RN} {fr : Nat} {bf : Int} (hI : Ids R) (hfr : fr < R.length) (hb : bf = 0 ∨ ∃ i, i < R.length ∧ idAt R i = bf) :
    (insP R n fr bf).Perm (restTo R fr R.length ++ [n]) ∧ R.Perm (restTo R fr R.length ++ [R[fr]]) := by
  have h1 := rest_perm (R := R) (fr := fr) R.length (Nat.le_refl _)
  rw [List.take_length, dif_pos ⟨hfr, hfr⟩] at h1
  refine ⟨?_, h1⟩
  have h2 := ins_perm (n := n) (fr := fr) (bf := bf) hI R.length (Nat.le_refl _)
  unfold insP
  by_cases h0 : bf = 0
  · rw [if_neg (fun h => h.1 h0), List.append_nil] at h2
    rw [if_pos h0]
    exact h2.append_right [n]
  · rw [if_pos ⟨h0, hb.resolve_left h0⟩] at h2
    rw [if_neg h0, List.append_nil]
    exact h2
theorem insP_length {R : List RN} {n : RN} {fr : Nat} {bf : Int} (hI : Ids R) (hfr : fr < R.length) (hb : bf = 0 ∨ ∃ i, i < R.length ∧ idAt R i = bf) : (insP R n fr bf).length = R.length := by
  have h := insP_perm (n := n) hI hfr hb
  have h1 := h.1.length_eq
  have h2 := h.2.length_eq
  rw [List.length_append] at h1 h2
  simp at h1 h2
  omega
theorem insP_mem {R : List RN} {n : RN} {fr : Nat} {bf : Int} (hI : Ids R) (hfr : fr < R.length) (hb : bf = 0 ∨ ∃ i, i < R.length ∧ idAt R i = bf) : ∀ m, m ∈ insP R n fr bf → m ∈ R ∨ m = n := by
  intro m hm
  have h := insP_perm (n := n) hI hfr hb
  rcases List.mem_append.1 (h.1.mem_iff.1 hm) with hm | hm
  · exact .inl (h.2.mem_iff.2 (List.mem_append.2 (.inl hm)))
  · exact .inr (List.mem_singleton.1 hm)
theorem insP_ids {R : List RN} {n : RN} {fr : Nat} {bf : Int} (hI : Ids R) (hfr : fr < R.length) (hb : bf = 0 ∨ ∃ i, i < R.length ∧ idAt R i = bf) (hn : n.id = R[fr].id) : Ids (insP R n fr bf) := by
  have h := insP_perm (n := n) hI hfr hb
  refine Ids.of_nodup (fun m hm => ?_) ?_
  · rcases insP_mem hI hfr hb m hm with hm | rfl
    · exact hI.pos m hm
    · rw [hn]; exact hI.pos _ (List.getElem_mem hfr)
  · have e1 := (h.1.map (·.id)).nodup_iff
    have e2 := (h.2.map (·.id)).nodup_iff
    rw [List.map_append] at e1 e2
    simp only [List.map_cons, List.map_nil, hn] at e1 e2
    exact e1.2 (e2.1 hI.nodup)
end Go.Proofs.YtobgcaemnpkbmaaGreat
