/- New -/
import Derived.Test.YtobgcaemnpkbmaaGreatD13
import Derived.Test.YtobgcaemnpkbmaaGreatD14
import Derived.StillTailTactics
namespace Go.Proofs.YtobgcaemnpkbmaaGreat
open Go.RowKit
attribute [local go_sem ↓] Go.wp_at_zero Go.wp_at_succ
theorem wrapEq (x : Int) : IntKind.i64.wrap x = wrap64 x := by rw [IntKind.wrap_i64]; unfold wrap64; rfl
theorem wrap_in {x : Int} (h1 : -9223372036854775808 ≤ x) (h2 : x ≤ 9223372036854775807) : IntKind.i64.wrap x = x := (wrapEq x).trans (IntWalk.wrap64_in x ⟨h1, h2⟩)
def atsOf (m : Nod) : List (ByteArray × ByteArray) := (List.range m.an).map fun j => (m.nm j, m.vl j)
theorem atsOf_length (m : Nod) : (atsOf m).length = m.an := by unfold atsOf; simp
theorem nmOf_atsOf {m : Nod} {j : Nat} (h : j < m.an) : nmOf (atsOf m) j = m.nm j := by unfold nmOf atsOf; simp [h]
theorem vlOf_atsOf {m : Nod} {j : Nat} (h : j < m.an) : vlOf (atsOf m) j = m.vl j := by unfold vlOf atsOf; simp [h]
theorem attrs_ats {w : World} {m : Nod} (h : AttrsAt w m.ao m.an m.nm m.vl) : AttrsAt w m.ao m.an (nmOf (atsOf m)) (vlOf (atsOf m)) := by
  intro j hj
  rw [nmOf_atsOf hj, vlOf_atsOf hj]
  exact h j hj
def parP (L : Nat → Nod) (i : Nat) : Int := if i = 0 then 0 else parentOf L i i + 1
def MadeOf (L : Nat → Nod) (i : Nat) (n : RN) : Prop := n.id = (i : Int) + 1 ∧ n.par = parP L i ∧ n.tag = (L i).t ∧ n.key = (L i).k ∧ n.text = (L i).x ∧ n.ats = atsOf (L i)
theorem RefAt.pushed {S : Nat → Prop} {wr ws w3 : World} {p : Nat} {R : List RN} {last : Int} {ao : Option Addr} {cap gg cap1 : Nat} {m : RN} {O : Obj} (h : RefAt S wr p R last (.slice ao R.length cap)) (hnew : ∀ b, wr.heap.size ≤ b → S b) (hbw : Below wr.heap.size wr ws)
    (hgrow : (ws.alloc O).drew.grownBy w3 (Value.ownBlock (.slice ao R.length cap))) (ho : w3.ownsRow 0 91 6 (.slice (some ⟨gg, 0, none⟩) (R.length + 1) cap1) (R.length + 1) (rowOf R ++ m.cells))
    (hat : Value.ownBlock (.slice ao R.length cap) = some gg ∨ gg = ws.heap.size + 1) (hm : m.Ok S ws) (hma : ∀ ad, m.ao = some ad → wr.heap.size ≤ ad.block) (few : R.length + 1 ≤ 800) :
    RefAt S (w3.setCell ⟨p, 0, none⟩ (.slice (some ⟨gg, 0, none⟩) (R.length + 1) cap1)) p (R ++ [m]) last (.slice (some ⟨gg, 0, none⟩) (R.length + 1) cap1) := by
  have hp := h.lt
  have hs := hbw.size
  have hsz3 : ws.heap.size + 1 ≤ w3.heap.size := by have := hgrow.size; simpa using this
  have np : some p ≠ Value.ownBlock (.slice ao R.length cap) := fun e => (h.srow p e.symm).2 rfl
  have hgp : gg ≠ p := by
    rcases hat with e | e
    · exact (h.srow gg e).2
    · omega
  have hw3 : ∀ b, b < ws.heap.size → some b ≠ Value.ownBlock (.slice ao R.length cap) → w3.heap[b]? = ws.heap[b]? := fun b hb hbr =>
    (hgrow.block b (by simp; omega) hbr).trans (Below.heap_alloc ws O b hb)
  have hpb := (hw3 p (by omega) np).trans (hbw.block p hp)
  have hrow : ∀ b, wr.heap.size ≤ b → some b ≠ Value.ownBlock (.slice ao R.length cap) := fun b hb e => by have := (h.row.lt b e.symm).2; omega
  refine h.build (fun b _ h => h) (by rw [size_setCell']; omega) ?_ ?_ ?_ ?_ ?_ ?_ ?_ ?_ ?_ ?_
  · have := (World.cell?_of_block (w := wr) (a := ⟨p, 0, none⟩) hpb).trans h.c0
    simp [go_sem, this]
  · have := (World.cell?_of_block (w := wr) (a := ⟨p, 1, none⟩) hpb).trans h.c1
    simp [go_sem, this]
  · have := (World.cell?_of_block (w := wr) (a := ⟨p, 2, none⟩) hpb).trans h.c2
    simp [go_sem, this]
  · have := (World.frozen?_of_block (w := wr) (a := ⟨p, 0, none⟩) hpb).trans h.f0
    simp [go_sem, this]
  · have := (World.frozen?_of_block (w := wr) (a := ⟨p, 2, none⟩) hpb).trans h.f2
    simp [go_sem, this]
  · rw [List.length_append, rowOf_snoc]
    exact own_set ho (.inr (fun e => hgp (Option.some.inj e)))
  · intro g' e
    have e' : gg = g' := Option.some.inj e
    subst e'
    refine ⟨?_, hgp⟩
    rcases hat with e | e
    · exact (h.srow gg e).1
    · exact hnew gg (by omega)
  · rw [List.length_append]; exact few
  · intro n hn
    rcases List.mem_append.1 hn with hn | hn
    · exact .inl hn
    · have := List.mem_singleton.1 hn
      subst this
      refine .inr ⟨hm.moved (fun _ _ h => h) (by rw [size_setCell']; omega) (fun ad e => ?_), fun ad e => ⟨?_, fun e2 => ?_⟩⟩
      · have hl := (hm.own ad e).2
        have hg := hma ad e
        exact (Below.heap_setCell w3 ⟨p, 0, none⟩ _ ad.block (by show ad.block ≠ p; omega)).trans (hw3 ad.block hl (hrow _ hg))
      · have hg := hma ad e
        omega
      · have hl := (hm.own ad e).2
        have hg := hma ad e
        have e3 : ad.block = gg := Option.some.inj e2
        rcases hat with e4 | e4
        · exact hrow ad.block hg (by rw [e3]; exact e4.symm)
        · omega
  · intro n hn ad e
    have ha := h.apart n hn ad e
    have hl := ((h.node n hn).own ad e).2
    refine ⟨((Below.heap_setCell w3 ⟨p, 0, none⟩ _ ad.block ha.1).trans (hw3 ad.block (by omega) ha.2)).trans (hbw.block ad.block hl), fun e2 => ?_⟩
    have e3 : ad.block = gg := Option.some.inj e2
    rcases hat with e4 | e4
    · exact ha.2 (by rw [e3]; exact e4.symm)
    · omega
set_option maxRecDepth 100000 in
set_option maxHeartbeats 4000000 in
theorem newDom_any (b o n c : Nat) (L : Nat → Nod) (w : World) (hn : n ≤ 400) (h : NodesAt w b o n L) (hd : ∀ i, i < n → 0 < i → 1 ≤ (L i).d ∧ (L i).d ≤ 11) (hp0 : ∀ i, i < n → 0 < i → 0 ≤ parentOf L i i ∧ parentOf L i i ≤ 400) (h5 : ∀ i, i < n → (L i).an ≤ 5) (hnil : ∀ i, i < n → (L i).ao = none → (L i).an = 0 ∧ (L i).ac = 0) :
    Calls Tryz.prog 15 #[.slice (some ⟨b, o, none⟩) n c] w fun e w' => e = .returned (.pointer (some ⟨w.heap.size, 0, none⟩)) ∧ Below w.heap.size w w' ∧ ∃ R v, RefAt (fun b => w.heap.size ≤ b) w' w.heap.size R n v ∧ R.length = n ∧ ∀ i, (hi : i < R.length) → MadeOf L i R[i] := by
  obtain ⟨i0, hi, hz0, hz1, hz2⟩ := info_parts refInfo
  obtain ⟨j0, hj, hy0, hy1, hy2⟩ := info_parts attrInfo'
  have H := hide h
  have HD := hide hd
  have HP := hide hp0
  have H5 := hide h5
  have HNil := hide hnil
  have hb := h.lt
  clear h hd hp0 h5 hnil
  go_enter Tryz.func15, Tryz.ntmps15
  go_wp2_with fail
  generalize hw1 : w.alloc (.cells #[.slice none 0 0, .int .i64 1, .int .i64 n] 89) = w1
  have hb1 : Below w.heap.size w w1 := by rw [← hw1]; exact (Below.refl _ _).alloc (Nat.le_refl _) _
  have hs1 : w1.heap.size = w.heap.size + 1 := by rw [← hw1]; simp
  have HR1 : Hid (RefAt (fun b => w.heap.size ≤ b) w1 w.heap.size [] n (.slice none 0 0)) := by
    refine hide ⟨Nat.le_refl _, ?_, ?_, ?_, ?_, ?_, World.ownsRow_nil _ _ _ _, fun g e => (nomatch e), (by simp), fun m hm => (nomatch hm), fun m hm => (nomatch hm)⟩
    all_goals rw [← hw1]; simp [go_sem]
  have HS1 := hide hs1
  clear hw1 hs1
  go_loopw [4, 5] (fun i _ wr => ∃ (k : Nat) (R : List RN) (v : Value), k ≤ n ∧ i = .int .i64 k ∧ Hid (R.length = k ∧ RefAt (fun b => w.heap.size ≤ b) wr w.heap.size R n v ∧ ∀ i, (hi : i < R.length) → MadeOf L i R[i]) ∧ Below w.heap.size w wr) (fun i _ _ => n - (intOf i).toNat)
  case atStart => exact ⟨0, [], _, Nat.zero_le _, rfl, hide ⟨rfl, HR1.out, fun i hi => absurd hi (Nat.not_lt_zero _)⟩, hb1⟩
  case round =>
    obtain ⟨k, R, v, hk, rfl, hinv, hbel⟩ := hrel
    obtain ⟨ao, cap, rfl⟩ := hinv.out.2.1.nil
    by_cases hlt : k < n
    · have A := H.out.node k hlt
      have f1 := (hbel.cell (p := ⟨b, o + k * 5 + 1, none⟩) hb).trans A.c1
      have f2 := (hbel.cell (p := ⟨b, o + k * 5 + 2, none⟩) hb).trans A.c2
      have f3 := (hbel.cell (p := ⟨b, o + k * 5 + 3, none⟩) hb).trans A.c3
      have f4 := (hbel.cell (p := ⟨b, o + k * 5 + 4, none⟩) hb).trans A.c4
      have HAt := hide (attrs_ats (A.ok.at'.below hbel))
      have HOk := hide A.ok
      have h5k := H5.out k hlt
      have HNk := hide (HNil.out k hlt)
      have i1 : (0 : Int) ≤ (k : Int) := by omega
      have i2 : (k : Int) < (n : Int) := by omega
      have lb : b < wr.heap.size := Nat.lt_of_lt_of_le hb hbel.size
      have hsz := hbel.size
      have ldn : w.heap.size < wr.heap.size := hinv.out.2.1.lt
      have x1 := World.new_ne wr _ f1
      have HBel := hide hbel
      have hwr : IntKind.i64.wrap ((k : Int) + 1) = (k : Int) + 1 := wrap_in (by omega) (by omega)
      clear hbel A
      go_wp2_with fail
      go_region_held3 (fun w' => w'.cell? ⟨b, o + k * 5 + 1, none⟩ = some (.string (L k).t) ∧ w'.cell? ⟨b, o + k * 5 + 2, none⟩ = some (.int .i64 (L k).k) ∧ w'.cell? ⟨b, o + k * 5 + 4, none⟩ = some (.string (L k).x)) (go_keep) (fail)
      generalize hw3 : (wr.alloc (.cells #[.int .i64 ((k : Int) + 1), .int .i64 0, .string (L k).t, .int .i64 (L k).k, .slice none 0 0, .string (L k).x] 91)).drew = w3
      have hb3 : Below wr.heap.size wr w3 := by rw [← hw3]; exact ((Below.refl _ _).alloc (Nat.le_refl _) _).drew
      have s3 : w3.heap.size = wr.heap.size + 1 := by rw [← hw3]; simp
      have m0 : w3.cell? ⟨wr.heap.size, 0, none⟩ = some (.int .i64 ((k : Int) + 1)) := by rw [← hw3]; simp [go_sem]
      have m1 : w3.cell? ⟨wr.heap.size, 1, none⟩ = some (.int .i64 0) := by rw [← hw3]; simp [go_sem]
      have m2 : w3.cell? ⟨wr.heap.size, 2, none⟩ = some (.string (L k).t) := by rw [← hw3]; simp [go_sem]
      have m3 : w3.cell? ⟨wr.heap.size, 3, none⟩ = some (.int .i64 (L k).k) := by rw [← hw3]; simp [go_sem]
      have m4 : w3.cell? ⟨wr.heap.size, 4, none⟩ = some (.slice none 0 0) := by rw [← hw3]; simp [go_sem]
      have m5 : w3.cell? ⟨wr.heap.size, 5, none⟩ = some (.string (L k).x) := by rw [← hw3]; simp [go_sem]
      have mf : ∀ r, w3.frozen? ⟨wr.heap.size, r, none⟩ = false := fun r => by rw [← hw3]; simp [go_sem]
      have e3 := (hb3.cell (p := ⟨b, o + k * 5 + 3, none⟩) lb).trans f3
      have HB3 := hide hb3
      have HA3 := hide (HAt.out.below hb3)
      have S3 := hide s3
      have lt3 : wr.heap.size < w3.heap.size := by omega
      have mf1 := mf 1
      have mf4 := mf 4
      clear hw3 hb3 s3 f1 f2 f3 f4 x1 mf
      go_wp2_with fail
      go_still_tail 7, (by kernel_rfl)
      change wpList _ _ _ _ _ w3.drew
      have hrow : Hid (w3.drew.ownsRow wr.heap.size 72 2 (.slice none 0 0) 0 []) := hide (World.ownsRow_nil _ _ _ _)
      have hal := atsOf_length (L k)
      have HAL := hide hal
      clear hal
      by_cases hk0 : k = 0
      · have hkb : decide ((0 : Int) < (k : Int)) = false := by simp; omega
        have HK0 := hide hk0
        have hkz : ¬ (0 : Int) < (k : Int) := by omega
        clear hk0
        go_wp2_with (first | (at_builtin; refine wpList_app _ rfl (.tmp 35) (.tmp 40) 31 rfl wr.heap.size 72 j0 _ 2 32 Tryz.underlying31 hj hy0 hy1 hy2 rfl (.slice none 0 0) 0 [] rfl (unhide hrow) (L k).ao (L k).an (L k).ac (attrCells (atsOf (L k))) rfl (unhide HNk) (by rw [attrCells_length, (unhide HAL)]) (attrs_from (unhide HAL).symm ((unhide HA3).below (Below.refl _ _).drew)) (attrCells_one _) (by omega) (by omega) (by show wr.heap.size ≤ w3.heap.size; omega) ?_; intro q5 w5 ho5 hg5 _; have ho5' := unhide ho5; rw [Nat.zero_add, List.nil_append] at ho5'; clear ho5; obtain ⟨a5, c5, rfl⟩ := own_shape ho5'; have HO5 := hide ho5'; clear ho5'; have hb5 := (Below.refl w3.heap.size w3).drew.trans (new_below (unhide hg5)); have s5 := hb5.size; have v0 := (hb5.cell (p := ⟨wr.heap.size, 0, none⟩) lt3).trans m0; have v1 := (hb5.cell (p := ⟨wr.heap.size, 1, none⟩) lt3).trans m1; have v2 := (hb5.cell (p := ⟨wr.heap.size, 2, none⟩) lt3).trans m2; have v3 := (hb5.cell (p := ⟨wr.heap.size, 3, none⟩) lt3).trans m3; have v4 := (hb5.cell (p := ⟨wr.heap.size, 4, none⟩) lt3).trans m4; have v5 := (hb5.cell (p := ⟨wr.heap.size, 5, none⟩) lt3).trans m5; have vf1 := (hb5.frozen (p := ⟨wr.heap.size, 1, none⟩) lt3).trans mf1; have vf4 := (hb5.frozen (p := ⟨wr.heap.size, 4, none⟩) lt3).trans mf4; have HB5 := hide hb5; clear hb5 m0 m1 m2 m3 m4 m5 mf1 mf4 e3))
        generalize hws : w5.setCell ⟨wr.heap.size, 4, none⟩ (.slice a5 (L k).an c5) = ws
        have hss : ws.heap.size = w5.heap.size := by rw [← hws]; exact size_setCell' _ _ _
        have HBs : Hid (Below wr.heap.size wr ws) := by rw [← hws]; exact hide ((HB3.out.trans (HB5.out.mono (by omega))).setCell (Nat.le_refl _) _)
        have y0 : ws.cell? ⟨wr.heap.size, 0, none⟩ = some (.int .i64 ((k : Int) + 1)) := by rw [← hws]; simp [go_sem, v0]
        have y1 : ws.cell? ⟨wr.heap.size, 1, none⟩ = some (.int .i64 0) := by rw [← hws]; simp [go_sem, v1]
        have y2 : ws.cell? ⟨wr.heap.size, 2, none⟩ = some (.string (L k).t) := by rw [← hws]; simp [go_sem, v2]
        have y3 : ws.cell? ⟨wr.heap.size, 3, none⟩ = some (.int .i64 (L k).k) := by rw [← hws]; simp [go_sem, v3]
        have y4 : ws.cell? ⟨wr.heap.size, 4, none⟩ = some (.slice a5 (L k).an c5) := by rw [← hws]; simp [go_sem, v4]
        have y5 : ws.cell? ⟨wr.heap.size, 5, none⟩ = some (.string (L k).x) := by rw [← hws]; simp [go_sem, v5]
        have HWs := hide hws
        have HSs := hide hss
        have HOw := hide HO5.out
        have lB : wr.heap.size < ws.heap.size := by omega
        have lD : w.heap.size < ws.heap.size := by omega
        have hbD : Below wr.heap.size wr ws := HBs.out
        have z0 : ws.cell? ⟨w.heap.size, 0, none⟩ = some (.slice ao R.length cap) := (hbD.cell (p := ⟨w.heap.size, 0, none⟩) ldn).trans hinv.out.2.1.c0
        have zf0 : ws.frozen? ⟨w.heap.size, 0, none⟩ = false := (hbD.frozen (p := ⟨w.heap.size, 0, none⟩) ldn).trans hinv.out.2.1.f0
        have HRow := hide (ownsRow_below hinv.out.2.1.row hbD)
        have np : some w.heap.size ≠ Value.ownBlock (.slice ao R.length cap) := fun e => (hinv.out.2.1.srow w.heap.size e.symm).2 rfl
        have nw : some wr.heap.size ≠ Value.ownBlock (.slice ao R.length cap) := fun e => by
          have := (hinv.out.2.1.row.lt wr.heap.size e.symm).2
          omega
        have hRl := hinv.out.2.1.few
        have hRk := hinv.out.1
        have HRk := hide hRk
        clear hbD hRk
        have HOs : Hid (ws.ownsRow wr.heap.size 72 2 (.slice a5 (L k).an c5) (L k).an (attrCells (atsOf (L k)))) := by
          rw [← HWs.out]
          refine hide (own_set HO5.out ?_)
          rcases hg5.out.at with e | e
          · exact .inl e
          · right
            rw [e]
            intro e2
            have e3 : w3.heap.size = wr.heap.size := Option.some.inj e2
            omega
        have HPar : Hid (0 = parP L k) := hide (by unfold parP; rw [if_pos HK0.out])
        clear hws hss v0 v1 v2 v3 v4 v5 vf1 vf4
        have hS0 : (fun w' : World => w'.frozen? ⟨w.heap.size, 0, none⟩ = false ∧ w'.cell? ⟨w.heap.size, 0, none⟩ = some (.slice ao R.length cap) ∧ w'.cell? ⟨wr.heap.size, 0, none⟩ = some (.int .i64 ((k : Int) + 1)) ∧ w'.cell? ⟨wr.heap.size, 1, none⟩ = some (.int .i64 0) ∧ w'.cell? ⟨wr.heap.size, 2, none⟩ = some (.string (L k).t) ∧ w'.cell? ⟨wr.heap.size, 3, none⟩ = some (.int .i64 (L k).k) ∧ w'.cell? ⟨wr.heap.size, 4, none⟩ = some (.slice a5 (L k).an c5) ∧ w'.cell? ⟨wr.heap.size, 5, none⟩ = some (.string (L k).x)) ws.drew := ⟨zf0, z0, y0, y1, y2, y3, y4, y5⟩
        refine wp_region_last (S := (fun w' : World => w'.frozen? ⟨w.heap.size, 0, none⟩ = false ∧ w'.cell? ⟨w.heap.size, 0, none⟩ = some (.slice ao R.length cap) ∧ w'.cell? ⟨wr.heap.size, 0, none⟩ = some (.int .i64 ((k : Int) + 1)) ∧ w'.cell? ⟨wr.heap.size, 1, none⟩ = some (.int .i64 0) ∧ w'.cell? ⟨wr.heap.size, 2, none⟩ = some (.string (L k).t) ∧ w'.cell? ⟨wr.heap.size, 3, none⟩ = some (.int .i64 (L k).k) ∧ w'.cell? ⟨wr.heap.size, 4, none⟩ = some (.slice a5 (L k).an c5) ∧ w'.cell? ⟨wr.heap.size, 5, none⟩ = some (.string (L k).x))) (by kernel_rfl) ?_
        refine wpAnyT_take (i := 0) (v := ?va0) rfl (by kernel_rfl) (by kernel_rfl) (by kernel_rfl) (by kernel_rfl) (fun _ _ _ h => h) (Or.inl ⟨by rfl, ?hya0⟩) hS0 ?ra0
        case hya0 => (intro w' hSw; (try dsimp only at hSw); simp only [List.getElem_toArray, List.getElem_cons_zero]; go_simp; try (with_reducible rfl))
        simp only [List.getElem_toArray, List.getElem_cons_zero, Act.put, List.setIfInBounds_toArray, List.set_cons_zero, List.set_cons_succ]
        refine wpAnyT_take (i := 1) (v := ?va1) rfl (by kernel_rfl) (by kernel_rfl) (by kernel_rfl) (by kernel_rfl) (fun _ _ _ h => h) (Or.inl ⟨by rfl, ?hya1⟩) hS0 ?ra1
        case hya1 => (intro w' hSw; (try dsimp only at hSw); simp only [List.getElem_toArray, List.getElem_cons_zero, List.getElem_cons_succ]; go_simp; try (with_reducible rfl))
        simp only [List.getElem_toArray, List.getElem_cons_zero, List.getElem_cons_succ, Act.put, List.setIfInBounds_toArray, List.set_cons_zero, List.set_cons_succ]
        refine wpAnyT_take (i := 2) (v := ?va2) rfl (by kernel_rfl) (by kernel_rfl) (by kernel_rfl) (by kernel_rfl) (fun _ _ _ h => h) (Or.inl ⟨by rfl, ?hya2⟩) hS0 ?ra2
        case hya2 => (intro w' hSw; (try dsimp only at hSw); simp only [List.getElem_toArray, List.getElem_cons_zero, List.getElem_cons_succ]; go_simp; try (with_reducible rfl))
        simp only [List.getElem_toArray, List.getElem_cons_zero, List.getElem_cons_succ, Act.put, List.setIfInBounds_toArray, List.set_cons_zero, List.set_cons_succ]
        refine wpAnyT_take (i := 3) (v := ?va3) rfl (by kernel_rfl) (by kernel_rfl) (by kernel_rfl) (by kernel_rfl) (fun _ _ _ h => h) (Or.inl ⟨by rfl, ?hya3⟩) hS0 ?ra3
        case hya3 => (intro w' hSw; (try dsimp only at hSw); simp only [List.getElem_toArray, List.getElem_cons_zero, List.getElem_cons_succ]; go_simp; try (with_reducible rfl))
        simp only [List.getElem_toArray, List.getElem_cons_zero, List.getElem_cons_succ, Act.put, List.setIfInBounds_toArray, List.set_cons_zero, List.set_cons_succ]
        refine wpAnyT_take (i := 4) (v := ?va4) rfl (by kernel_rfl) (by kernel_rfl) (by kernel_rfl) (by kernel_rfl) (fun _ _ _ h => h) (Or.inl ⟨by rfl, ?hya4⟩) hS0 ?ra4
        case hya4 => (intro w' hSw; (try dsimp only at hSw); simp only [List.getElem_toArray, List.getElem_cons_zero, List.getElem_cons_succ]; go_simp; try (with_reducible rfl))
        simp only [List.getElem_toArray, List.getElem_cons_zero, List.getElem_cons_succ, Act.put, List.setIfInBounds_toArray, List.set_cons_zero, List.set_cons_succ]
        refine wpAnyT_take (i := 5) (v := ?va5) rfl (by kernel_rfl) (by kernel_rfl) (by kernel_rfl) (by kernel_rfl) (fun _ _ _ h => h) (Or.inl ⟨by rfl, ?hya5⟩) hS0 ?ra5
        case hya5 => (intro w' hSw; (try dsimp only at hSw); simp only [List.getElem_toArray, List.getElem_cons_zero, List.getElem_cons_succ]; go_simp; try (with_reducible rfl))
        simp only [List.getElem_toArray, List.getElem_cons_zero, List.getElem_cons_succ, Act.put, List.setIfInBounds_toArray, List.set_cons_zero, List.set_cons_succ]
        refine wpAnyT_one (i := 6) rfl (by kernel_rfl) (by rfl) ?_
        simp only [List.getElem_toArray, List.getElem_cons_zero, List.getElem_cons_succ]
        go_simp
        refine wpAnyT_one (i := 7) rfl (by kernel_rfl) (by rfl) ?_
        simp only [List.getElem_toArray, List.getElem_cons_zero, List.getElem_cons_succ]
        refine wp_append_lies _ _ _ _ (by rfl) 0 91 i0 _ 6 80 Tryz.underlying87 hi hz0 hz1 hz2 rfl (by omega) (.slice ao R.length cap) R.length (rowOf R) (by rfl) ((World.ownsRow.alloc (unhide HRow) _).drew) ⟨ws.heap.size, 0, none⟩ 1 1 [.int .i64 ((k : Int) + 1), .int .i64 0, .string (L k).t, .int .i64 (L k).k, .slice a5 (L k).an c5, .string (L k).x] (by rfl) (by rfl) (World.news_of_block (cs := #[.int .i64 ((k : Int) + 1), .int .i64 0, .string (L k).t, .int .i64 (L k).k, .slice a5 (L k).an c5, .string (L k).x]) (t := 91) (fr := (0, 0)) (heap_alloc_new ws _)) (by simp [Value.oneCell']) (by omega) (by unfold maxLen; omega) (by omega) (Nat.zero_le _) (ws.heap.size + 1) (by simp) ?_
        intro gg cap1 w7 hown7 hgrow hat hlt7
        have g0 : w7.frozen? ⟨w.heap.size, 0, none⟩ = false := (hgrow.frozen_far ⟨w.heap.size, 0, none⟩ (by simp; omega) np).trans ((World.frozen?_of_block (w := ws) (Below.heap_alloc _ _ _ lD)).trans zf0)
        have g1 : w7.cell? ⟨w.heap.size, 0, none⟩ = some (.slice ao R.length cap) := (hgrow.cell_far ⟨w.heap.size, 0, none⟩ (by simp; omega) np).trans ((World.cell?_of_block (w := ws) (Below.heap_alloc _ _ _ lD)).trans z0)
        have ga : ∀ j, w7.cell? ⟨wr.heap.size, j, none⟩ = ws.cell? ⟨wr.heap.size, j, none⟩ := fun j => (hgrow.cell_far ⟨wr.heap.size, j, none⟩ (by simp; omega) nw).trans (World.cell?_of_block (w := ws) (Below.heap_alloc _ _ _ lB))
        refine ⟨.inr ⟨g0, g1, (ga 0).trans y0, (ga 1).trans y1, (ga 2).trans y2, (ga 3).trans y3, (ga 4).trans y4, (ga 5).trans y5⟩, ?_⟩
        have t0 := (ga 0).trans y0
        have t1 := (ga 1).trans y1
        have t2 := (ga 2).trans y2
        have t3 := (ga 3).trans y3
        have t4 := (ga 4).trans y4
        have t5 := (ga 5).trans y5
        have HO7 := hide hown7
        have HG7 := hide hgrow
        clear hown7 hgrow ga
        simp only [Act.put, List.setIfInBounds_toArray, List.set_cons_zero, List.set_cons_succ]
        refine wpAnyT_one (i := 8) rfl (by kernel_rfl) (by rfl) ?_
        simp only [List.getElem_toArray, List.getElem_cons_zero, List.getElem_cons_succ]
        go_simp
        refine wpAnyT_one (i := 9) rfl (by kernel_rfl) (by rfl) ?_
        simp only [List.getElem_toArray, List.getElem_cons_zero, List.getElem_cons_succ]
        go_simp
        refine wpAnyT_one (i := 10) rfl (by kernel_rfl) (by rfl) ?_
        simp only [List.getElem_toArray, List.getElem_cons_zero, List.getElem_cons_succ]
        go_simp
        refine ⟨by kernel_rfl, ?_⟩
        refine wpAnyT_done (by kernel_rfl) ?_ _
        go_wp2_with fail
        have hok : RN.Ok (fun b => w.heap.size ≤ b) ws { id := (k : Int) + 1, par := 0, tag := (L k).t, key := (L k).k, text := (L k).x, ats := atsOf (L k), ao := a5, an := (L k).an, ac := c5 } := by
          have hx : ∀ ad, a5 = some ad → wr.heap.size ≤ ad.block ∧ ad.block < ws.heap.size := fun ad e => by
            subst e
            exact World.ownsRow.lt HOs.out ad.block rfl
          refine ⟨(atsOf_length _).symm, h5k, fun e => ?_, HOk.out.t, HOk.out.x, attrs_of_row HOs.out (atsOf_length _).symm (attrs_sizes (atsOf_length _).symm HAt.out), fun ad e => ⟨Nat.le_trans hsz (hx ad e).1, (hx ad e).2⟩⟩
          have e : a5 = none := e
          subst e
          rcases HOs.out.2 with ⟨h1, h2⟩ | ⟨g', cap', cur, h1, _⟩
          · simp only [Value.slice.injEq] at h1; exact ⟨h2, h1.2.2⟩
          · simp only [Value.slice.injEq] at h1; cases h1.1
        have hpu := hinv.out.2.1.pushed (m := { id := (k : Int) + 1, par := 0, tag := (L k).t, key := (L k).k, text := (L k).x, ats := atsOf (L k), ao := a5, an := (L k).an, ac := c5 }) (fun b hb => Nat.le_trans hsz hb) HBs.out HG7.out HO7.out hat hok (fun ad e => by
          have e : a5 = some ad := e
          subst e
          exact (World.ownsRow.lt HOs.out ad.block rfl).1) (by rw [HRk.out]; omega)
        have hbf : Below w.heap.size w (w7.setCell ⟨w.heap.size, 0, none⟩ (.slice (some ⟨gg, 0, none⟩) (R.length + 1) cap1)) := by
          refine Below.setCell (p := ⟨w.heap.size, 0, none⟩) ?_ (Nat.le_refl _) _
          refine Below.grown (((HBel.out.trans (HBs.out.mono hsz)).alloc (Nat.le_trans hsz HBs.out.size) _).drew) HG7.out (by simp; omega) (fun j hj => (hinv.out.2.1.srow j hj).1)
        have HPU := hide hpu
        have HBF := hide hbf
        clear hpu hbf hok
        go_roundw
        case rel =>
          refine ⟨k + 1, R ++ [{ id := (k : Int) + 1, par := 0, tag := (L k).t, key := (L k).k, text := (L k).x, ats := atsOf (L k), ao := a5, an := (L k).an, ac := c5 }], _, by omega, by go_num, hide ⟨by rw [List.length_append, HRk.out]; rfl, HPU.out, fun i hi => ?_⟩, HBF.out⟩
          by_cases hiR : i < R.length
          · rw [List.getElem_append_left hiR]; exact hinv.out.2.2 i hiR
          · have hik : i = k := by
              have := HRk.out
              rw [List.length_append] at hi
              simp at hi
              omega
            subst hik
            rw [List.getElem_append_right (by omega)]
            simp only [HRk.out, Nat.sub_self, List.getElem_cons_zero]
            exact ⟨rfl, HPar.out, rfl, rfl, rfl, rfl⟩
        case measure => simp [intOf]; omega
      · have hkb : decide ((0 : Int) < (k : Int)) = true := by simp; omega
        have HK0 := hide hk0
        have hkz : 0 < k := by omega
        obtain ⟨hd1, hd2⟩ := HD.out k hlt hkz
        obtain ⟨hq1, hq2⟩ := HP.out k hlt hkz
        clear hk0
        go_wp2_with (first | (at_builtin; refine wpList_app _ rfl (.tmp 35) (.tmp 40) 31 rfl wr.heap.size 72 j0 _ 2 32 Tryz.underlying31 hj hy0 hy1 hy2 rfl (.slice none 0 0) 0 [] rfl (unhide hrow) (L k).ao (L k).an (L k).ac (attrCells (atsOf (L k))) rfl (unhide HNk) (by rw [attrCells_length, (unhide HAL)]) (attrs_from (unhide HAL).symm ((unhide HA3).below (Below.refl _ _).drew)) (attrCells_one _) (by omega) (by omega) (by show wr.heap.size ≤ w3.heap.size; omega) ?_; intro q5 w5 ho5 hg5 _; have ho5' := unhide ho5; rw [Nat.zero_add, List.nil_append] at ho5'; clear ho5; obtain ⟨a5, c5, rfl⟩ := own_shape ho5'; have HO5 := hide ho5'; clear ho5'; have hb5 := (Below.refl w3.heap.size w3).drew.trans (new_below (unhide hg5)); have s5 := hb5.size; have v0 := (hb5.cell (p := ⟨wr.heap.size, 0, none⟩) lt3).trans m0; have v1 := (hb5.cell (p := ⟨wr.heap.size, 1, none⟩) lt3).trans m1; have v2 := (hb5.cell (p := ⟨wr.heap.size, 2, none⟩) lt3).trans m2; have v3 := (hb5.cell (p := ⟨wr.heap.size, 3, none⟩) lt3).trans m3; have v4 := (hb5.cell (p := ⟨wr.heap.size, 4, none⟩) lt3).trans m4; have v5 := (hb5.cell (p := ⟨wr.heap.size, 5, none⟩) lt3).trans m5; have vf1 := (hb5.frozen (p := ⟨wr.heap.size, 1, none⟩) lt3).trans mf1; have vf4 := (hb5.frozen (p := ⟨wr.heap.size, 4, none⟩) lt3).trans mf4; have HB5 := hide hb5; clear hb5 m0 m1 m2 m3 m4 m5 mf1 mf4 e3) | (go_at_call 24; refine (parent_any b o n c L k _ (by unfold maxLen; omega) hlt ((unhide H).below (((unhide HBel).trans ((unhide HB3).mono hsz)).trans (((unhide HB5).mono (by omega)).setCell (p := ⟨wr.heap.size, 4, none⟩) hsz _))) hd1 hd2).mono ?_; rintro e w6 ⟨rfl, hb6⟩; have HB6 := hide hb6; have s6 := hb6.size; have u0 := (hb6.cell (p := ⟨wr.heap.size, 0, none⟩) (by rw [size_setCell']; show wr.heap.size < _; omega)).trans (show _ = some (.int .i64 ((k : Int) + 1)) by simp [go_sem, v0]); have u1 := (hb6.cell (p := ⟨wr.heap.size, 1, none⟩) (by rw [size_setCell']; show wr.heap.size < _; omega)).trans (show _ = some (.int .i64 0) by simp [go_sem, v1]); have u2 := (hb6.cell (p := ⟨wr.heap.size, 2, none⟩) (by rw [size_setCell']; show wr.heap.size < _; omega)).trans (show _ = some (.string (L k).t) by simp [go_sem, v2]); have u3 := (hb6.cell (p := ⟨wr.heap.size, 3, none⟩) (by rw [size_setCell']; show wr.heap.size < _; omega)).trans (show _ = some (.int .i64 (L k).k) by simp [go_sem, v3]); have u4 := (hb6.cell (p := ⟨wr.heap.size, 4, none⟩) (by rw [size_setCell']; show wr.heap.size < _; omega)).trans (show _ = some (.slice a5 (L k).an c5) by simp [go_sem, v4]); have u5 := (hb6.cell (p := ⟨wr.heap.size, 5, none⟩) (by rw [size_setCell']; show wr.heap.size < _; omega)).trans (show _ = some (.string (L k).x) by simp [go_sem, v5]); have uf1 := (hb6.frozen (p := ⟨wr.heap.size, 1, none⟩) (by rw [size_setCell']; show wr.heap.size < _; omega)).trans (show _ = false by simp [go_sem, vf1]); clear hb6 v0 v1 v2 v3 v4 v5 vf1 vf4))
        generalize hws : w6.setCell ⟨wr.heap.size, 1, none⟩ (.int .i64 (parentOf L k k + 1)) = ws
        have hs6 : w5.heap.size ≤ w6.heap.size := by have := s6; rwa [size_setCell'] at this
        have hss : ws.heap.size = w6.heap.size := by rw [← hws]; exact size_setCell' _ _ _
        have HBs : Hid (Below wr.heap.size wr ws) := by rw [← hws]; exact hide ((((HB3.out.trans (HB5.out.mono (by omega))).setCell (p := ⟨wr.heap.size, 4, none⟩) (Nat.le_refl _) _).trans (HB6.out.mono (by rw [size_setCell']; omega))).setCell (p := ⟨wr.heap.size, 1, none⟩) (Nat.le_refl _) _)
        have y0 : ws.cell? ⟨wr.heap.size, 0, none⟩ = some (.int .i64 ((k : Int) + 1)) := by rw [← hws]; simp [go_sem, u0]
        have y1 : ws.cell? ⟨wr.heap.size, 1, none⟩ = some (.int .i64 (parentOf L k k + 1)) := by rw [← hws]; simp [go_sem, u1]
        have y2 : ws.cell? ⟨wr.heap.size, 2, none⟩ = some (.string (L k).t) := by rw [← hws]; simp [go_sem, u2]
        have y3 : ws.cell? ⟨wr.heap.size, 3, none⟩ = some (.int .i64 (L k).k) := by rw [← hws]; simp [go_sem, u3]
        have y4 : ws.cell? ⟨wr.heap.size, 4, none⟩ = some (.slice a5 (L k).an c5) := by rw [← hws]; simp [go_sem, u4]
        have y5 : ws.cell? ⟨wr.heap.size, 5, none⟩ = some (.string (L k).x) := by rw [← hws]; simp [go_sem, u5]
        have HWs := hide hws
        have HSs := hide hss
        have HOw := hide HO5.out
        have lB : wr.heap.size < ws.heap.size := by omega
        have lD : w.heap.size < ws.heap.size := by omega
        have hbD : Below wr.heap.size wr ws := HBs.out
        have z0 : ws.cell? ⟨w.heap.size, 0, none⟩ = some (.slice ao R.length cap) := (hbD.cell (p := ⟨w.heap.size, 0, none⟩) ldn).trans hinv.out.2.1.c0
        have zf0 : ws.frozen? ⟨w.heap.size, 0, none⟩ = false := (hbD.frozen (p := ⟨w.heap.size, 0, none⟩) ldn).trans hinv.out.2.1.f0
        have HRow := hide (ownsRow_below hinv.out.2.1.row hbD)
        have np : some w.heap.size ≠ Value.ownBlock (.slice ao R.length cap) := fun e => (hinv.out.2.1.srow w.heap.size e.symm).2 rfl
        have nw : some wr.heap.size ≠ Value.ownBlock (.slice ao R.length cap) := fun e => by
          have := (hinv.out.2.1.row.lt wr.heap.size e.symm).2
          omega
        have hRl := hinv.out.2.1.few
        have hRk := hinv.out.1
        have HRk := hide hRk
        clear hbD hRk
        have HOs : Hid (ws.ownsRow wr.heap.size 72 2 (.slice a5 (L k).an c5) (L k).an (attrCells (atsOf (L k)))) := by
          rw [← HWs.out]
          have hne5 : ∀ r, Value.ownBlock (.slice a5 (L k).an c5) = none ∨ Value.ownBlock (.slice a5 (L k).an c5) ≠ some (Addr.block ⟨wr.heap.size, r, none⟩) := fun r => by
            rcases hg5.out.at with e | e
            · exact .inl e
            · right
              rw [e]
              intro e2
              have e3 : w3.heap.size = wr.heap.size := Option.some.inj e2
              omega
          refine hide (own_set (ownsRow_below (own_set HO5.out (hne5 4)) HB6.out) (hne5 1))
        have HPar : Hid (parentOf L k k + 1 = parP L k) := hide (by unfold parP; rw [if_neg HK0.out])
        clear hws hss u0 u1 u2 u3 u4 u5 uf1
        have hS0 : (fun w' : World => w'.frozen? ⟨w.heap.size, 0, none⟩ = false ∧ w'.cell? ⟨w.heap.size, 0, none⟩ = some (.slice ao R.length cap) ∧ w'.cell? ⟨wr.heap.size, 0, none⟩ = some (.int .i64 ((k : Int) + 1)) ∧ w'.cell? ⟨wr.heap.size, 1, none⟩ = some (.int .i64 (parentOf L k k + 1)) ∧ w'.cell? ⟨wr.heap.size, 2, none⟩ = some (.string (L k).t) ∧ w'.cell? ⟨wr.heap.size, 3, none⟩ = some (.int .i64 (L k).k) ∧ w'.cell? ⟨wr.heap.size, 4, none⟩ = some (.slice a5 (L k).an c5) ∧ w'.cell? ⟨wr.heap.size, 5, none⟩ = some (.string (L k).x)) ws.drew := ⟨zf0, z0, y0, y1, y2, y3, y4, y5⟩
        refine wp_region_last (S := (fun w' : World => w'.frozen? ⟨w.heap.size, 0, none⟩ = false ∧ w'.cell? ⟨w.heap.size, 0, none⟩ = some (.slice ao R.length cap) ∧ w'.cell? ⟨wr.heap.size, 0, none⟩ = some (.int .i64 ((k : Int) + 1)) ∧ w'.cell? ⟨wr.heap.size, 1, none⟩ = some (.int .i64 (parentOf L k k + 1)) ∧ w'.cell? ⟨wr.heap.size, 2, none⟩ = some (.string (L k).t) ∧ w'.cell? ⟨wr.heap.size, 3, none⟩ = some (.int .i64 (L k).k) ∧ w'.cell? ⟨wr.heap.size, 4, none⟩ = some (.slice a5 (L k).an c5) ∧ w'.cell? ⟨wr.heap.size, 5, none⟩ = some (.string (L k).x))) (by kernel_rfl) ?_
        refine wpAnyT_take (i := 0) (v := ?vb0) rfl (by kernel_rfl) (by kernel_rfl) (by kernel_rfl) (by kernel_rfl) (fun _ _ _ h => h) (Or.inl ⟨by rfl, ?hyb0⟩) hS0 ?rb0
        case hyb0 => (intro w' hSw; (try dsimp only at hSw); simp only [List.getElem_toArray, List.getElem_cons_zero]; go_simp; try (with_reducible rfl))
        simp only [List.getElem_toArray, List.getElem_cons_zero, Act.put, List.setIfInBounds_toArray, List.set_cons_zero, List.set_cons_succ]
        refine wpAnyT_take (i := 1) (v := ?vb1) rfl (by kernel_rfl) (by kernel_rfl) (by kernel_rfl) (by kernel_rfl) (fun _ _ _ h => h) (Or.inl ⟨by rfl, ?hyb1⟩) hS0 ?rb1
        case hyb1 => (intro w' hSw; (try dsimp only at hSw); simp only [List.getElem_toArray, List.getElem_cons_zero, List.getElem_cons_succ]; go_simp; try (with_reducible rfl))
        simp only [List.getElem_toArray, List.getElem_cons_zero, List.getElem_cons_succ, Act.put, List.setIfInBounds_toArray, List.set_cons_zero, List.set_cons_succ]
        refine wpAnyT_take (i := 2) (v := ?vb2) rfl (by kernel_rfl) (by kernel_rfl) (by kernel_rfl) (by kernel_rfl) (fun _ _ _ h => h) (Or.inl ⟨by rfl, ?hyb2⟩) hS0 ?rb2
        case hyb2 => (intro w' hSw; (try dsimp only at hSw); simp only [List.getElem_toArray, List.getElem_cons_zero, List.getElem_cons_succ]; go_simp; try (with_reducible rfl))
        simp only [List.getElem_toArray, List.getElem_cons_zero, List.getElem_cons_succ, Act.put, List.setIfInBounds_toArray, List.set_cons_zero, List.set_cons_succ]
        refine wpAnyT_take (i := 3) (v := ?vb3) rfl (by kernel_rfl) (by kernel_rfl) (by kernel_rfl) (by kernel_rfl) (fun _ _ _ h => h) (Or.inl ⟨by rfl, ?hyb3⟩) hS0 ?rb3
        case hyb3 => (intro w' hSw; (try dsimp only at hSw); simp only [List.getElem_toArray, List.getElem_cons_zero, List.getElem_cons_succ]; go_simp; try (with_reducible rfl))
        simp only [List.getElem_toArray, List.getElem_cons_zero, List.getElem_cons_succ, Act.put, List.setIfInBounds_toArray, List.set_cons_zero, List.set_cons_succ]
        refine wpAnyT_take (i := 4) (v := ?vb4) rfl (by kernel_rfl) (by kernel_rfl) (by kernel_rfl) (by kernel_rfl) (fun _ _ _ h => h) (Or.inl ⟨by rfl, ?hyb4⟩) hS0 ?rb4
        case hyb4 => (intro w' hSw; (try dsimp only at hSw); simp only [List.getElem_toArray, List.getElem_cons_zero, List.getElem_cons_succ]; go_simp; try (with_reducible rfl))
        simp only [List.getElem_toArray, List.getElem_cons_zero, List.getElem_cons_succ, Act.put, List.setIfInBounds_toArray, List.set_cons_zero, List.set_cons_succ]
        refine wpAnyT_take (i := 5) (v := ?vb5) rfl (by kernel_rfl) (by kernel_rfl) (by kernel_rfl) (by kernel_rfl) (fun _ _ _ h => h) (Or.inl ⟨by rfl, ?hyb5⟩) hS0 ?rb5
        case hyb5 => (intro w' hSw; (try dsimp only at hSw); simp only [List.getElem_toArray, List.getElem_cons_zero, List.getElem_cons_succ]; go_simp; try (with_reducible rfl))
        simp only [List.getElem_toArray, List.getElem_cons_zero, List.getElem_cons_succ, Act.put, List.setIfInBounds_toArray, List.set_cons_zero, List.set_cons_succ]
        refine wpAnyT_one (i := 6) rfl (by kernel_rfl) (by rfl) ?_
        simp only [List.getElem_toArray, List.getElem_cons_zero, List.getElem_cons_succ]
        go_simp
        refine wpAnyT_one (i := 7) rfl (by kernel_rfl) (by rfl) ?_
        simp only [List.getElem_toArray, List.getElem_cons_zero, List.getElem_cons_succ]
        refine wp_append_lies _ _ _ _ (by rfl) 0 91 i0 _ 6 80 Tryz.underlying87 hi hz0 hz1 hz2 rfl (by omega) (.slice ao R.length cap) R.length (rowOf R) (by rfl) ((World.ownsRow.alloc (unhide HRow) _).drew) ⟨ws.heap.size, 0, none⟩ 1 1 [.int .i64 ((k : Int) + 1), .int .i64 (parentOf L k k + 1), .string (L k).t, .int .i64 (L k).k, .slice a5 (L k).an c5, .string (L k).x] (by rfl) (by rfl) (World.news_of_block (cs := #[.int .i64 ((k : Int) + 1), .int .i64 (parentOf L k k + 1), .string (L k).t, .int .i64 (L k).k, .slice a5 (L k).an c5, .string (L k).x]) (t := 91) (fr := (0, 0)) (heap_alloc_new ws _)) (by simp [Value.oneCell']) (by omega) (by unfold maxLen; omega) (by omega) (Nat.zero_le _) (ws.heap.size + 1) (by simp) ?_
        intro gg cap1 w7 hown7 hgrow hat hlt7
        have g0 : w7.frozen? ⟨w.heap.size, 0, none⟩ = false := (hgrow.frozen_far ⟨w.heap.size, 0, none⟩ (by simp; omega) np).trans ((World.frozen?_of_block (w := ws) (Below.heap_alloc _ _ _ lD)).trans zf0)
        have g1 : w7.cell? ⟨w.heap.size, 0, none⟩ = some (.slice ao R.length cap) := (hgrow.cell_far ⟨w.heap.size, 0, none⟩ (by simp; omega) np).trans ((World.cell?_of_block (w := ws) (Below.heap_alloc _ _ _ lD)).trans z0)
        have ga : ∀ j, w7.cell? ⟨wr.heap.size, j, none⟩ = ws.cell? ⟨wr.heap.size, j, none⟩ := fun j => (hgrow.cell_far ⟨wr.heap.size, j, none⟩ (by simp; omega) nw).trans (World.cell?_of_block (w := ws) (Below.heap_alloc _ _ _ lB))
        refine ⟨.inr ⟨g0, g1, (ga 0).trans y0, (ga 1).trans y1, (ga 2).trans y2, (ga 3).trans y3, (ga 4).trans y4, (ga 5).trans y5⟩, ?_⟩
        have t0 := (ga 0).trans y0
        have t1 := (ga 1).trans y1
        have t2 := (ga 2).trans y2
        have t3 := (ga 3).trans y3
        have t4 := (ga 4).trans y4
        have t5 := (ga 5).trans y5
        have HO7 := hide hown7
        have HG7 := hide hgrow
        clear hown7 hgrow ga
        simp only [Act.put, List.setIfInBounds_toArray, List.set_cons_zero, List.set_cons_succ]
        refine wpAnyT_one (i := 8) rfl (by kernel_rfl) (by rfl) ?_
        simp only [List.getElem_toArray, List.getElem_cons_zero, List.getElem_cons_succ]
        go_simp
        refine wpAnyT_one (i := 9) rfl (by kernel_rfl) (by rfl) ?_
        simp only [List.getElem_toArray, List.getElem_cons_zero, List.getElem_cons_succ]
        go_simp
        refine wpAnyT_one (i := 10) rfl (by kernel_rfl) (by rfl) ?_
        simp only [List.getElem_toArray, List.getElem_cons_zero, List.getElem_cons_succ]
        go_simp
        refine ⟨by kernel_rfl, ?_⟩
        refine wpAnyT_done (by kernel_rfl) ?_ _
        go_wp2_with fail
        have hok : RN.Ok (fun b => w.heap.size ≤ b) ws { id := (k : Int) + 1, par := parentOf L k k + 1, tag := (L k).t, key := (L k).k, text := (L k).x, ats := atsOf (L k), ao := a5, an := (L k).an, ac := c5 } := by
          have hx : ∀ ad, a5 = some ad → wr.heap.size ≤ ad.block ∧ ad.block < ws.heap.size := fun ad e => by
            subst e
            exact World.ownsRow.lt HOs.out ad.block rfl
          refine ⟨(atsOf_length _).symm, h5k, fun e => ?_, HOk.out.t, HOk.out.x, attrs_of_row HOs.out (atsOf_length _).symm (attrs_sizes (atsOf_length _).symm HAt.out), fun ad e => ⟨Nat.le_trans hsz (hx ad e).1, (hx ad e).2⟩⟩
          have e : a5 = none := e
          subst e
          rcases HOs.out.2 with ⟨h1, h2⟩ | ⟨g', cap', cur, h1, _⟩
          · simp only [Value.slice.injEq] at h1; exact ⟨h2, h1.2.2⟩
          · simp only [Value.slice.injEq] at h1; cases h1.1
        have hpu := hinv.out.2.1.pushed (m := { id := (k : Int) + 1, par := parentOf L k k + 1, tag := (L k).t, key := (L k).k, text := (L k).x, ats := atsOf (L k), ao := a5, an := (L k).an, ac := c5 }) (fun b hb => Nat.le_trans hsz hb) HBs.out HG7.out HO7.out hat hok (fun ad e => by
          have e : a5 = some ad := e
          subst e
          exact (World.ownsRow.lt HOs.out ad.block rfl).1) (by rw [HRk.out]; omega)
        have hbf : Below w.heap.size w (w7.setCell ⟨w.heap.size, 0, none⟩ (.slice (some ⟨gg, 0, none⟩) (R.length + 1) cap1)) := by
          refine Below.setCell (p := ⟨w.heap.size, 0, none⟩) ?_ (Nat.le_refl _) _
          refine Below.grown (((HBel.out.trans (HBs.out.mono hsz)).alloc (Nat.le_trans hsz HBs.out.size) _).drew) HG7.out (by simp; omega) (fun j hj => (hinv.out.2.1.srow j hj).1)
        have HPU := hide hpu
        have HBF := hide hbf
        clear hpu hbf hok
        go_roundw
        case rel =>
          refine ⟨k + 1, R ++ [{ id := (k : Int) + 1, par := parentOf L k k + 1, tag := (L k).t, key := (L k).k, text := (L k).x, ats := atsOf (L k), ao := a5, an := (L k).an, ac := c5 }], _, by omega, by go_num, hide ⟨by rw [List.length_append, HRk.out]; rfl, HPU.out, fun i hi => ?_⟩, HBF.out⟩
          by_cases hiR : i < R.length
          · rw [List.getElem_append_left hiR]; exact hinv.out.2.2 i hiR
          · have hik : i = k := by
              have := HRk.out
              rw [List.length_append] at hi
              simp at hi
              omega
            subst hik
            rw [List.getElem_append_right (by omega)]
            simp only [HRk.out, Nat.sub_self, List.getElem_cons_zero]
            exact ⟨rfl, HPar.out, rfl, rfl, rfl, rfl⟩
        case measure => simp [intOf]; omega
    · have hkn : k = n := by omega
      subst hkn
      go_wp2_with fail
      go_ret
      exact ⟨rfl, hbel, R, _, hinv.out.2.1, hinv.out.1, hinv.out.2.2⟩
end Go.Proofs.YtobgcaemnpkbmaaGreat
