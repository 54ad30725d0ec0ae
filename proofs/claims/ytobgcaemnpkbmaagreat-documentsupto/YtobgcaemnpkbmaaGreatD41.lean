/- Pick Same Lw Lx -/
import Derived.Test.YtobgcaemnpkbmaaGreatD02
import Derived.Test.YtobgcaemnpkbmaaGreatD05
import Derived.BigQuiet
import Derived.Test.YtobgcaemnpkbmaaGreatD35
import Derived.Test.YtobgcaemnpkbmaaGreatD39
import Derived.Test.YtobgcaemnpkbmaaGreatD40
import Derived.Test.YtobgcaemnpkbmaaGreatD34
import Derived.Test.YtobgcaemnpkbmaaGreatD37
namespace Go.Proofs.YtobgcaemnpkbmaaGreat
open Go.RowKit
def pickP (c : Int) (n : Nat) : Nat := ((if c < 0 then -(c + 1) else c) % (n : Int)).toNat
theorem pickP_lt (c : Int) {n : Nat} (hn : 0 < n) : pickP c n < n := by
  unfold pickP
  have h1 := Int.emod_lt_of_pos (if c < 0 then -(c + 1) else c) (show (0 : Int) < (n : Int) by omega)
  have h2 := Int.emod_nonneg (if c < 0 then -(c + 1) else c) (show (n : Int) ≠ 0 by omega)
  omega
set_option maxRecDepth 100000 in
set_option maxHeartbeats 400000 in
theorem pick_any (c : Int) (n : Nat) (w : World) (hn : 0 < n) (hn2 : n ≤ 1099511627776) (hc1 : -9223372036854775808 ≤ c) (hc2 : c ≤ 9223372036854775807) :
    Calls Tryz.prog 16 #[.int .i64 c, .int .i64 n] w fun e w' => e = .returned (.int .i64 (pickP c n : Nat)) ∧ w' = w := by
  have hn0 : (1 : Int) ≤ (n : Int) := by omega
  have hr : ∀ x : Int, 0 ≤ x → (((x % (n : Int)).toNat : Nat) : Int) = x % (n : Int) := fun x hx => Int.toNat_of_nonneg (Int.emod_nonneg x (by omega))
  have HR := hide hr
  clear hr
  by_cases h : c < 0
  · have HX : Hid (((pickP c n : Nat) : Int) = -(c + 1) % (n : Int)) := hide (by unfold pickP; rw [if_pos h]; exact HR.out _ (by omega))
    go_enter Tryz.func16, Tryz.ntmps16
    go_wp2_with fail
    go_ret
    refine ⟨?_, rfl⟩
    have e : -((c + 1).tmod (n : Int)) = -(c + 1) % (n : Int) := by rw [← Int.neg_tmod, Int.tmod_eq_emod_of_nonneg (by omega)]
    rw [HX.out, ← e]
    rfl
  · have HX : Hid (((pickP c n : Nat) : Int) = c % (n : Int)) := hide (by unfold pickP; rw [if_neg h]; exact HR.out _ (by omega))
    have h0 : 0 ≤ c := by omega
    go_enter Tryz.func16, Tryz.ntmps16
    go_wp2_with fail
    go_ret
    exact ⟨by rw [HX.out]; rfl, rfl⟩
end Go.Proofs.YtobgcaemnpkbmaaGreat
namespace Go.Proofs.YtobgcaemnpkbmaaGreat
open Go.RowKit
attribute [local go_sem ↓] Go.wp_at_zero Go.wp_at_succ
set_option maxRecDepth 100000 in
set_option maxHeartbeats 1600000 in
theorem sameNode_any (d : Int) (t : ByteArray) (ky : Int) (x : ByteArray) (a1 a2 : Option Addr) (n c1 c2 : Nat) (nm vl : Nat → ByteArray) (w : World) (hn : n ≤ maxLen) (h1 : AttrsAt w a1 n nm vl) (h2 : AttrsAt w a2 n nm vl) :
    Calls Tryz.prog 47 #[.agg #[.int .i64 d, .string t, .int .i64 ky, .slice a1 n c1, .string x], .agg #[.int .i64 d, .string t, .int .i64 ky, .slice a2 n c2, .string x]] w fun e w' => e = .returned (.bool true) ∧ Below w.heap.size w w' := by
  unfold maxLen at hn
  have H1 := hide h1
  have H2 := hide h2
  clear h1 h2
  go_enter Tryz.func47, Tryz.ntmps47
  go_wp2
  generalize hw2 : (w.alloc (.cells #[.int .i64 d, .string t, .int .i64 ky, .slice a1 n c1, .string x] 33)).alloc (.cells #[.int .i64 d, .string t, .int .i64 ky, .slice a2 n c2, .string x] 33) = w2
  have hb2 : Below w.heap.size w w2 := by rw [← hw2]; exact ((Below.refl _ _).alloc (Nat.le_refl _) _).alloc (by simp) _
  have s2 : w.heap.size + 1 < w2.heap.size := by rw [← hw2]; simp
  have q3 : w2.cell? ⟨w.heap.size, 3, none⟩ = some (.slice a1 n c1) := by rw [← hw2]; simp [go_sem]
  have r3 : w2.cell? ⟨w.heap.size + 1, 3, none⟩ = some (.slice a2 n c2) := by rw [← hw2]; simp [go_sem]
  have HB2 := hide hb2
  clear hw2 hb2
  go_loopw [5] (fun i wr => ∃ k : Nat, k ≤ n ∧ i = .int .i64 k ∧ Below w2.heap.size w2 wr) (fun i _ => n - (intOf i).toNat)
  case atStart => exact ⟨0, Nat.zero_le _, rfl, Below.refl _ _⟩
  case round =>
    obtain ⟨k, hk, rfl, hbel⟩ := hrel
    have e1 := (hbel.cell (p := ⟨w.heap.size, 3, none⟩) (by simp; omega)).trans q3
    have e2 := (hbel.cell (p := ⟨w.heap.size + 1, 3, none⟩) (by simp; omega)).trans r3
    by_cases hlt : k < n
    · obtain ⟨b1, o1, rfl, hl1, c0, c1', _, _⟩ := H1.out k hlt
      obtain ⟨b2, o2, rfl, hl2, d0, d1, _, _⟩ := H2.out k hlt
      have hbw := HB2.out.trans (hbel.mono HB2.out.size)
      have f0 := (hbw.cell (p := ⟨b1, o1 + k * 2, none⟩) hl1).trans c0
      have f1 := (hbw.cell (p := ⟨b1, o1 + k * 2 + 1, none⟩) hl1).trans c1'
      have g0 := (hbw.cell (p := ⟨b2, o2 + k * 2, none⟩) hl2).trans d0
      have g1 := (hbw.cell (p := ⟨b2, o2 + k * 2 + 1, none⟩) hl2).trans d1
      have i1 : (0 : Int) ≤ (k : Int) := by omega
      have i2 : (k : Int) < (n : Int) := by omega
      clear c0 c1' d0 d1 hbw
      generalize nm k = x0 at *
      generalize vl k = x1 at *
      go_wp2
      go_big_quiet (fail)
      go_wp2
      go_roundw
      case rel => exact ⟨k + 1, by omega, by go_num, drewN_of hbel _⟩
      case measure => simp [intOf]; omega
    · go_wp2
      go_ret
      exact ⟨rfl, HB2.out.trans (hbel.mono HB2.out.size)⟩
set_option maxRecDepth 100000 in
set_option maxHeartbeats 1600000 in
theorem same_any (a1 a2 : Option Addr) (n c1 c2 : Nat) (L M : Nat → Nod) (w : World) (hn : n ≤ maxLen) (h1 : ListAt w a1 n L) (h2 : ListAt w a2 n M)
    (hs : ∀ i, i < n → (L i).d = (M i).d ∧ (L i).t = (M i).t ∧ (L i).k = (M i).k ∧ (L i).x = (M i).x ∧ (L i).an = (M i).an ∧ (L i).nm = (M i).nm ∧ (L i).vl = (M i).vl) :
    Calls Tryz.prog 26 #[.slice a1 n c1, .slice a2 n c2] w fun e w' => e = .returned (.bool true) ∧ Below w.heap.size w w' := by
  unfold maxLen at hn
  have H1 := hide h1
  have H2 := hide h2
  have HS := hide hs
  clear h1 h2 hs
  go_enter Tryz.func26, Tryz.ntmps26
  go_wp2_with fail
  go_loopw [5, 6] (fun i _ wr => ∃ k : Nat, k ≤ n ∧ i = .int .i64 k ∧ Below w.heap.size w wr) (fun i _ _ => n - (intOf i).toNat)
  case atStart => exact ⟨0, Nat.zero_le _, rfl, Below.refl _ _⟩
  case round =>
    obtain ⟨k, hk, rfl, hbel⟩ := hrel
    by_cases hlt : k < n
    · obtain ⟨b1, o1, rfl, hL⟩ := H1.out (by omega)
      obtain ⟨b2, o2, rfl, hM⟩ := H2.out (by omega)
      have l1 := hL.lt
      have l2 := hM.lt
      have A := hL.node k hlt
      have B := hM.node k hlt
      obtain ⟨u0, u1, u2, u3, u4, u5, u6⟩ := HS.out k hlt
      have f0 := (hbel.cell (p := ⟨b1, o1 + k * 5, none⟩) l1).trans A.c0
      have f1 := (hbel.cell (p := ⟨b1, o1 + k * 5 + 1, none⟩) l1).trans A.c1
      have f2 := (hbel.cell (p := ⟨b1, o1 + k * 5 + 2, none⟩) l1).trans A.c2
      have f3 := (hbel.cell (p := ⟨b1, o1 + k * 5 + 3, none⟩) l1).trans A.c3
      have f4 := (hbel.cell (p := ⟨b1, o1 + k * 5 + 4, none⟩) l1).trans A.c4
      have g0 := (hbel.cell (p := ⟨b2, o2 + k * 5, none⟩) l2).trans B.c0
      have g1 := (hbel.cell (p := ⟨b2, o2 + k * 5 + 1, none⟩) l2).trans B.c1
      have g2 := (hbel.cell (p := ⟨b2, o2 + k * 5 + 2, none⟩) l2).trans B.c2
      have g3 := (hbel.cell (p := ⟨b2, o2 + k * 5 + 3, none⟩) l2).trans B.c3
      have g4 := (hbel.cell (p := ⟨b2, o2 + k * 5 + 4, none⟩) l2).trans B.c4
      have HA := hide (A.ok.at'.below hbel)
      have HB := hide (B.ok.at'.below hbel)
      have HAn := hide A.ok.an
      rw [u0] at f0
      rw [u1] at f1
      rw [u2] at f2
      rw [u4] at f3 HA HAn
      rw [u3] at f4
      rw [u5, u6] at HA
      clear u0 u1 u2 u3 u4 u5 u6 A B hL hM H1 H2
      generalize (L k).ao = ao1 at *
      generalize (L k).ac = ac1 at *
      generalize M k = m at *
      have i1 : (0 : Int) ≤ (k : Int) := by omega
      have i2 : (k : Int) < (n : Int) := by omega
      have hsz := hbel.size
      have HBel := hide hbel
      have j1 : b1 < wr.heap.size := by omega
      have j2 : b2 < wr.heap.size := by omega
      clear hbel
      go_wp2_with fail
      go_region_held3 (fun w' => w'.cell? ⟨b1, o1 + k * 5, none⟩ = some (.int .i64 m.d) ∧ w'.cell? ⟨b1, o1 + k * 5 + 1, none⟩ = some (.string m.t) ∧ w'.cell? ⟨b1, o1 + k * 5 + 2, none⟩ = some (.int .i64 m.k) ∧ w'.cell? ⟨b1, o1 + k * 5 + 3, none⟩ = some (.slice ao1 m.an ac1) ∧ w'.cell? ⟨b1, o1 + k * 5 + 4, none⟩ = some (.string m.x) ∧
          w'.cell? ⟨b2, o2 + k * 5, none⟩ = some (.int .i64 m.d) ∧ w'.cell? ⟨b2, o2 + k * 5 + 1, none⟩ = some (.string m.t) ∧ w'.cell? ⟨b2, o2 + k * 5 + 2, none⟩ = some (.int .i64 m.k) ∧ w'.cell? ⟨b2, o2 + k * 5 + 3, none⟩ = some (.slice m.ao m.an m.ac) ∧ w'.cell? ⟨b2, o2 + k * 5 + 4, none⟩ = some (.string m.x))
        (first
          | go_keep
          | (go_split_ands
             refine ⟨?_, ?_, ?_, ?_, ?_, ?_, ?_, ?_, ?_, ?_⟩ <;> (rw [hb6.cell (by simp; omega)]; assumption)))
        ((go_at_call 47; refine (sameNode_any m.d m.t m.k m.x ao1 m.ao m.an ac1 m.ac m.nm m.vl _ (unhide HAn) ((unhide HA).below (Below.refl _ _).drew) ((unhide HB).below (Below.refl _ _).drew)).mono ?_; rintro e w6 ⟨rfl, hb6⟩))
      have hB6 := HBel.out.trans (((Below.refl wr.heap.size wr).drew.trans hb6).mono hsz)
      clear hb6
      go_wp2_with fail
      go_roundw
      case rel => exact ⟨k + 1, by omega, by go_num, hB6⟩
      case measure => simp [intOf]; omega
    · go_wp2_with fail
      go_ret
      exact ⟨rfl, hbel⟩
end Go.Proofs.YtobgcaemnpkbmaaGreat
namespace Go.Proofs.YtobgcaemnpkbmaaGreat
open Go.RowKit
abbrev Owns := Nat → Option (Nat × Nat)
structure PD where
  pb : Nat
  db : Nat
  q : Nat
  p : Nat
  mb : Nat
  ρ : Roles
  nb : Int → Nat
  R : List RN
  R' : List RN
  last : Int
  v : Value
theorem RefAt.heap {S S' : Nat → Prop} {w w' : World} {p : Nat} {R : List RN} {last : Int} {v : Value} (h : RefAt S w p R last v) (hs : w.heap.size ≤ w'.heap.size) (hb : ∀ b, b < w.heap.size → S b → w'.heap[b]? = w.heap[b]? ∧ S' b) : RefAt S' w' p R last v := by
  have hp := h.lt
  have hpb := (hb p hp h.sp).1
  refine ⟨(hb p hp h.sp).2, (World.cell?_of_block hpb).trans h.c0, (World.cell?_of_block hpb).trans h.c1, (World.cell?_of_block hpb).trans h.c2, (frozen_heap hpb _).trans h.f0, (frozen_heap hpb _).trans h.f2, ?_, ?_, h.few, ?_, h.apart⟩
  · exact own_heap h.row fun b e => (hb b (h.row.lt b e).2 (h.srow b e).1).1
  · exact fun g e => ⟨(hb g (h.row.lt g e).2 (h.srow g e).1).2, (h.srow g e).2⟩
  · intro n hn
    have ok := h.node n hn
    refine ⟨ok.an, ok.few, ok.nil, ok.tag, ok.text, ?_, fun ad e => ⟨(hb _ (ok.own ad e).2 (ok.own ad e).1).2, Nat.lt_of_lt_of_le (ok.own ad e).2 hs⟩⟩
    intro j hj
    obtain ⟨b, o, e, hbw, c0, c1, s0, s1⟩ := ok.at' j hj
    have hk := (hb b hbw (ok.own _ e).1).1
    exact ⟨b, o, e, Nat.lt_of_lt_of_le hbw hs, (World.cell?_of_block hk).trans c0, (World.cell?_of_block hk).trans c1, s0, s1⟩
theorem Dom.heap {ρ : Roles} {nb : Int → Nat} {mb : Nat} {rt : Option Nat} {w w' : World} {q : Nat} {R : List RN} {last : Int} (h : Dom ρ nb mb rt w q R last) (hs : w.heap.size ≤ w'.heap.size) (hb : ∀ b, (ρ b).isSome = true → w'.heap[b]? = w.heap[b]?) : Dom ρ nb mb rt w' q R last where
  blk := (hb q (by rw [h.role]; rfl)).trans h.blk
  role := h.role
  mrole := h.mrole
  map := h.map.heap (hb mb (by rw [h.mrole]; rfl))
  node := fun n hn => by
    obtain ⟨av, kv, hp⟩ := h.node n hn
    exact ⟨av, kv, hp.kept (fun b j e => hb b (by rw [e]; rfl)) (fun _ _ => rfl) rfl⟩
  low := fun b e => Nat.lt_of_lt_of_le (h.low b e) hs
  few := h.few
structure PairOk (own : Owns) (i : Nat) (w : World) (D : PD) : Prop where
  pblk : w.heap[D.pb]? = some (.cells #[.pointer (some ⟨D.db, 0, none⟩), .pointer (some ⟨D.p, 0, none⟩)] 63 (0, 0))
  dblk : w.heap[D.db]? = some (.cells #[.pointer (some ⟨D.q, 0, none⟩)] 84 (0, 0))
  po : own D.pb = some (i + 1, 0)
  dbo : own D.db = some (i + 1, 0)
  dom : Dom D.ρ D.nb D.mb (some (D.nb 1)) w D.q D.R D.last
  ro : ∀ b, (D.ρ b).isSome = true → own b = some (i + 1, 1)
  ref : RefAt (fun b => own b = some (i + 1, 2)) w D.p D.R' D.last D.v
  bare : bareL D.R' = bareL D.R
  ok : DocOk D.R D.last
  fine : Fine D.R
theorem PairOk.ok' {own : Owns} {i : Nat} {w : World} {D : PD} (h : PairOk own i w D) : DocOk D.R' D.last := by
  rw [← DocOk.bare, h.bare, DocOk.bare]; exact h.ok
theorem PairOk.kept {own own' : Owns} {i : Nat} {w w' : World} {D : PD} (h : PairOk own i w D) (hs : w.heap.size ≤ w'.heap.size) (hb : ∀ b j, own b = some (i + 1, j) → w'.heap[b]? = w.heap[b]? ∧ own' b = own b) : PairOk own' i w' D where
  pblk := (hb _ _ h.po).1.trans h.pblk
  dblk := (hb _ _ h.dbo).1.trans h.dblk
  po := (hb _ _ h.po).2.trans h.po
  dbo := (hb _ _ h.dbo).2.trans h.dbo
  dom := h.dom.heap hs fun b e => (hb _ _ (h.ro b e)).1
  ro := fun b e => (hb _ _ (h.ro b e)).2.trans (h.ro b e)
  ref := h.ref.heap hs fun _ _ e => ⟨(hb _ _ e).1, (hb _ _ e).2.trans e⟩
  bare := h.bare
  ok := h.ok
  fine := h.fine
def KindAt (own : Owns) (w : World) (wb k m : Nat) (e : TypeId) (pat : Nat → Nat → Value) (size : Nat) : Prop :=
  ∃ v E, w.cell? ⟨wb, k + 1, none⟩ = some v ∧ w.frozen? ⟨wb, k + 1, none⟩ = false ∧ LAt (fun b => own b = some (0, 2)) w e v E pat size ∧ E.length % 4 = 0 ∧ E.length ≤ m ∧ ∀ b, v.ownBlock = some b → own b = some (0, 3 + k)
theorem LAt.kept {S S' : Nat → Prop} {w w' : World} {e : TypeId} {v : Value} {E : List Value} {pat : Nat → Nat → Value} {size : Nat} (h : LAt S w e v E pat size) (hs : w.heap.size ≤ w'.heap.size) (hv : ∀ b, v.ownBlock = some b → w'.heap[b]? = w.heap[b]?) (hb : ∀ b, b < w.heap.size → S b → w'.heap[b]? = w.heap[b]? ∧ S' b) : LAt S' w' e v E pat size :=
  ⟨own_heap h.row hv, fun i hi => (h.each i hi).block hb hs⟩
theorem KindAt.kept {own own' : Owns} {w w' : World} {wb k m m' : Nat} {e : TypeId} {pat : Nat → Nat → Value} {size : Nat} (h : KindAt own w wb k m e pat size) (hs : w.heap.size ≤ w'.heap.size) (hm : m ≤ m')
    (hc : w'.cell? ⟨wb, k + 1, none⟩ = w.cell? ⟨wb, k + 1, none⟩ ∧ w'.frozen? ⟨wb, k + 1, none⟩ = w.frozen? ⟨wb, k + 1, none⟩) (hb : ∀ b, own b = some (0, 2) ∨ own b = some (0, 3 + k) → w'.heap[b]? = w.heap[b]? ∧ own' b = own b) : KindAt own' w' wb k m' e pat size := by
  obtain ⟨v, E, h1, h2, h3, h4, h5, h6⟩ := h
  exact ⟨v, E, hc.1.trans h1, hc.2.trans h2, h3.kept hs (fun b e => (hb b (.inr (h6 b e))).1) fun b _ e => ⟨(hb b (.inl e)).1, (hb b (.inl e)).2.trans e⟩, h4, Nat.le_trans h5 hm, fun b e => (hb b (.inr (h6 b e))).2.trans (h6 b e)⟩
structure BookOk (own : Owns) (w : World) (wb m : Nat) : Prop where
  nums : KindAt own w wb 0 m 69 (fun i => numPat (numMark i)) 1
  atts : KindAt own w wb 1 m 31 (fun i => attPat (attMark i)) 2
  nods : KindAt own w wb 2 m 24 (fun i => nodPat (numMark i)) 5
  pats : KindAt own w wb 3 m 25 (fun i => pchPat (numMark i)) 8
  evts : KindAt own w wb 4 m 75 (fun i => evtPat (numMark i)) 4
  coms : KindAt own w wb 5 m 78 (fun i => comPat (numMark i)) 2
theorem BookOk.kept {own own' : Owns} {w w' : World} {wb m m' : Nat} (h : BookOk own w wb m) (hs : w.heap.size ≤ w'.heap.size) (hm : m ≤ m')
    (hc : ∀ o, 0 < o → w'.cell? ⟨wb, o, none⟩ = w.cell? ⟨wb, o, none⟩ ∧ w'.frozen? ⟨wb, o, none⟩ = w.frozen? ⟨wb, o, none⟩) (hb : ∀ b j, own b = some (0, 2 + j) → w'.heap[b]? = w.heap[b]? ∧ own' b = own b) : BookOk own' w' wb m' := by
  have hk : ∀ k b, own b = some (0, 2) ∨ own b = some (0, 3 + k) → w'.heap[b]? = w.heap[b]? ∧ own' b = own b := fun k b e => by
    rcases e with e | e
    · exact hb b 0 e
    · exact hb b (k + 1) (by rw [e]; congr 2; omega)
  exact ⟨h.nums.kept hs hm (hc _ (by omega)) (hk 0), h.atts.kept hs hm (hc _ (by omega)) (hk 1), h.nods.kept hs hm (hc _ (by omega)) (hk 2), h.pats.kept hs hm (hc _ (by omega)) (hk 3), h.evts.kept hs hm (hc _ (by omega)) (hk 4), h.coms.kept hs hm (hc _ (by omega)) (hk 5)⟩
structure LawOk (W0 : World) (own : Owns) (w : World) (wb : Nat) (Ps : List PD) (m : Nat) (k : Int) : Prop where
  wo : own wb = some (0, 0)
  top : ∃ vp, w.cell? ⟨wb, 0, none⟩ = some vp ∧ w.frozen? ⟨wb, 0, none⟩ = false ∧ w.ownsRow 0 59 1 vp Ps.length (Ps.map fun D => .pointer (some ⟨D.pb, 0, none⟩)) ∧ ∀ b, vp.ownBlock = some b → own b = some (0, 1)
  pair : ∀ i, (hi : i < Ps.length) → PairOk own i w Ps[i]
  book : BookOk own w wb (20 * m)
  low : ∀ b, (own b).isSome = true → W0.heap.size ≤ b ∧ b < w.heap.size
  base : Below W0.heap.size W0 w
  few : Ps.length ≤ m
  last : ∀ D, D ∈ Ps → D.last ≤ k
theorem below_touch {B : Nat} {W0 w w' : World} {S : Nat → Prop} (h : Below B W0 w) (ht : Touch S w w') (hS : ∀ b, S b → B ≤ b) (hB : B ≤ W0.heap.size) : Below B W0 w' where
  os := ht.os.trans h.os
  tape := ht.tape.trans h.tape
  output := ht.output.trans h.output
  size := Nat.le_trans h.size ht.size
  block := fun k hk => (ht.block k (Nat.lt_of_lt_of_le hk (Nat.le_trans hB h.size)) fun e => by have := hS k e; omega).trans (h.block k hk)
theorem LawOk.touch {W0 : World} {own : Owns} {w w' : World} {wb : Nat} {Ps : List PD} {m m' : Nat} {k k' : Int} (h : LawOk W0 own w wb Ps m k) (hm : m ≤ m') (hk : k ≤ k') {S : Nat → Prop} (ht : Touch S w w') (hS : ∀ b, S b → own b = none ∧ W0.heap.size ≤ b) : LawOk W0 own w' wb Ps m' k' := by
  have hb : ∀ b, (own b).isSome = true → w'.heap[b]? = w.heap[b]? := fun b e => ht.block b (h.low b e).2 fun e2 => by rw [(hS b e2).1] at e; cases e
  have hwb := hb wb (by rw [h.wo]; rfl)
  obtain ⟨vp, t1, t2, t3, t4⟩ := h.top
  refine ⟨h.wo, ⟨vp, (World.cell?_of_block hwb).trans t1, (frozen_heap hwb _).trans t2, own_heap t3 fun b e => hb b (by rw [t4 b e]; rfl), t4⟩, fun i hi => (h.pair i hi).kept ht.size fun b j e => ⟨hb b (by rw [e]; rfl), rfl⟩, ?_, fun b e => ⟨(h.low b e).1, Nat.lt_of_lt_of_le (h.low b e).2 ht.size⟩, below_touch h.base ht (fun b e => (hS b e).2) (Nat.le_refl _), Nat.le_trans h.few hm, fun D hD => Int.le_trans (h.last D hD) hk⟩
  exact h.book.kept ht.size (by omega) (fun o _ => ⟨World.cell?_of_block hwb, frozen_heap hwb _⟩) fun b j e => ⟨hb b (by rw [e]; rfl), rfl⟩
theorem LawOk.below {W0 : World} {own : Owns} {w w' : World} {wb : Nat} {Ps : List PD} {m m' : Nat} {k k' : Int} (h : LawOk W0 own w wb Ps m k) (hm : m ≤ m') (hk : k ≤ k') (hb : Below w.heap.size w w') : LawOk W0 own w' wb Ps m' k' :=
  h.touch hm hk (S := fun _ => False) (Touch.of_below hb) fun _ e => e.elim
end Go.Proofs.YtobgcaemnpkbmaaGreat
namespace Go.Proofs.YtobgcaemnpkbmaaGreat
open Go.RowKit
def TN.nod (n : TN) : Nod := ⟨n.d, n.tag, n.key, n.ao, n.an, n.ac, n.text, nmOf n.ats, vlOf n.ats⟩
def TN.zero : TN := ⟨0, ⟨#[]⟩, 0, ⟨#[]⟩, [], none, 0, 0⟩
def nodsOf (N : List TN) (i : Nat) : Nod := (N.getD i TN.zero).nod
theorem nodsOf_lt {N : List TN} {i : Nat} (h : i < N.length) : nodsOf N i = N[i].nod := by
  unfold nodsOf
  rw [List.getD_eq_getElem?_getD, List.getElem?_eq_getElem h]
  rfl
theorem TellAt.list {B : Nat} {w : World} {ao : Option Addr} {n c : Nat} {N : List TN} (h : TellAt B w (.slice ao n c) N) (hn : n = N.length) (hl : N.length ≤ 1000000) (hfew : ∀ x, x ∈ N → x.ats.length ≤ 5) : ListAt w ao n (nodsOf N) := by
  subst hn
  intro h0
  rcases h.row.2 with ⟨e, _⟩ | ⟨g, cap, cur, e, _, hg, _⟩
  · simp at e; omega
  · simp at e
    obtain ⟨rfl, rfl⟩ := e
    have hgl : g < w.heap.size := (Array.getElem?_eq_some_iff.1 hg).1
    refine ⟨g, 0, rfl, hgl, fun i hi => ?_⟩
    have hx := h.node _ (List.getElem_mem hi)
    have hf := hfew _ (List.getElem_mem hi)
    have cell : ∀ r, r < 5 → w.cell? ⟨g, 0 + i * 5 + r, none⟩ = N[i].cells[r]? := fun r hr => by
      rw [Nat.zero_add, h.row.cellAt (i * 5 + r) (by omega), tellOf_get N i r hi hr]
    rw [nodsOf_lt hi]
    refine ⟨cell 0 (by omega), cell 1 (by omega), cell 2 (by omega), cell 3 (by omega), cell 4 (by omega), ⟨?_, hx.tag, hx.text, attrs_of_row hx.row hx.an hx.size⟩⟩
    show N[i].an ≤ maxLen
    rw [hx.an]; unfold maxLen; omega
theorem tell_few {R : List RN} {W : List (Nat × Int)} {N : List TN} (h : TellL R W N) (hR : ∀ n, n ∈ R → n.ats.length ≤ 5) : ∀ x, x ∈ N → x.ats.length ≤ 5 := fun x hx => by
  obtain ⟨i, hi, rfl⟩ := List.getElem_of_mem hx
  obtain ⟨hl, _, _, _, _, e⟩ := h.2 i (by rw [← h.1]; exact hi) hi
  rw [e]
  exact hR _ (List.getElem_mem hl)
theorem bare_tell {R R' : List RN} (e : bareL R' = bareL R) {W : List (Nat × Int)} {N : List TN} (h : TellL R' W N) : TellL R W N := by
  refine ⟨h.1, fun i hi hn => ?_⟩
  obtain ⟨hl, h1, h2, h3, h4, h5⟩ := h.2 i hi hn
  have hlen : R'.length = R.length := by have := congrArg List.length e; rwa [bareL_length, bareL_length] at this
  have hl' : W[i].1 < R.length := by omega
  have hb : (R'[W[i].1]).bare = (R[W[i].1]).bare := by
    have h1 := bare_get (R := R') (i := W[i].1) (by rw [bareL_length]; exact hl)
    have h2 := bare_get (R := R) (i := W[i].1) (by rw [bareL_length]; exact hl')
    rw [← h1, ← h2]
    simp only [e]
  have hp : (R'[W[i].1]).toPN = (R[W[i].1]).toPN := by
    have h0 := congrArg RN.toPN hb
    exact h0
  refine ⟨hl', h1, ?_, ?_, ?_, ?_⟩
  · rw [h2, hp]
  · rw [h3, hp]
  · rw [h4, hp]
  · rw [h5, hp]
theorem same_tell {R : List RN} {W : List (Nat × Int)} {B B' : Nat} {w : World} {q q' : Value} {N N' : List TN} (h : TellAt B w q N) (h' : TellAt B' w q' N') (ht : TellL R W N) (ht' : TellL R W N') (hW : W.length ≤ 1000000) (hR : ∀ n, n ∈ R → n.ats.length ≤ 5) :
    Calls Tryz.prog 26 #[q, q'] w fun e w' => e = .returned (.bool true) ∧ Below w.heap.size w w' := by
  obtain ⟨ao, c, rfl⟩ := own_shape h.row
  obtain ⟨ao', c', rfl⟩ := own_shape h'.row
  have el : N'.length = N.length := by rw [ht.1, ht'.1]
  have hN : N.length ≤ 1000000 := by rw [ht.1]; exact hW
  have hL := h.list rfl hN (tell_few ht hR)
  have hL' := h'.list rfl (by omega) (tell_few ht' hR)
  have hs : ∀ i, i < N.length → (nodsOf N i).d = (nodsOf N' i).d ∧ (nodsOf N i).t = (nodsOf N' i).t ∧ (nodsOf N i).k = (nodsOf N' i).k ∧ (nodsOf N i).x = (nodsOf N' i).x ∧ (nodsOf N i).an = (nodsOf N' i).an ∧ (nodsOf N i).nm = (nodsOf N' i).nm ∧ (nodsOf N i).vl = (nodsOf N' i).vl := fun i hi => by
    rw [nodsOf_lt hi, nodsOf_lt (by omega)]
    have hiW : i < W.length := by rw [← ht.1]; exact hi
    obtain ⟨_, a1, a2, a3, a4, a5⟩ := ht.2 i hiW hi
    obtain ⟨_, b1, b2, b3, b4, b5⟩ := ht'.2 i hiW (by omega)
    have e5 : N[i].ats = (N'[i]'(by omega)).ats := by rw [a5, b5]
    refine ⟨?_, ?_, ?_, ?_, ?_, ?_, ?_⟩
    · show N[i].d = N'[i].d; rw [a1, b1]
    · show N[i].tag = N'[i].tag; rw [a2, b2]
    · show N[i].key = N'[i].key; rw [a3, b3]
    · show N[i].text = N'[i].text; rw [a4, b4]
    · show N[i].an = N'[i].an; rw [(h.node _ (List.getElem_mem hi)).an, (h'.node _ (List.getElem_mem (by omega))).an, e5]
    · show nmOf N[i].ats = nmOf N'[i].ats; rw [e5]
    · show vlOf N[i].ats = vlOf N'[i].ats; rw [e5]
  rw [el] at hL' ⊢
  exact same_any ao ao' N.length c c' (nodsOf N) (nodsOf N') w (by unfold maxLen; omega) hL hL' hs
theorem LawOk.booked {W0 : World} {own own' : Owns} {w w' : World} {wb : Nat} {Ps : List PD} {m m' : Nat} {k : Int} (h : LawOk W0 own w wb Ps m k) (hm : m ≤ m') {S : Nat → Prop} (ht : Touch S w w') (hS : ∀ b, S b → W0.heap.size ≤ b) (hext : ∀ b, (own b).isSome = true → own' b = own b)
    (hlow : ∀ b, (own' b).isSome = true → W0.heap.size ≤ b ∧ b < w'.heap.size) (h0 : w'.cell? ⟨wb, 0, none⟩ = w.cell? ⟨wb, 0, none⟩ ∧ w'.frozen? ⟨wb, 0, none⟩ = w.frozen? ⟨wb, 0, none⟩) (hb : ∀ b, own b = some (0, 1) ∨ (∃ i j, own b = some (i + 1, j)) → ¬ S b) (hbk : BookOk own' w' wb (20 * m')) : LawOk W0 own' w' wb Ps m' k := by
  have hkb : ∀ b, own b = some (0, 1) ∨ (∃ i j, own b = some (i + 1, j)) → w'.heap[b]? = w.heap[b]? := fun b e => ht.block b (h.low b (by rcases e with e | ⟨i, j, e⟩ <;> rw [e] <;> rfl)).2 (hb b e)
  obtain ⟨vp, t1, t2, t3, t4⟩ := h.top
  refine ⟨(hext wb (by rw [h.wo]; rfl)).trans h.wo, ⟨vp, h0.1.trans t1, h0.2.trans t2, own_heap t3 fun b e => hkb b (.inl (t4 b e)), fun b e => (hext b (by rw [t4 b e]; rfl)).trans (t4 b e)⟩, fun i hi => (h.pair i hi).kept ht.size fun b j e => ⟨hkb b (.inr ⟨i, j, e⟩), hext b (by rw [e]; rfl)⟩, hbk, hlow, below_touch h.base ht hS (Nat.le_refl _), Nat.le_trans h.few hm, h.last⟩
theorem LAt.mono {S S' : Nat → Prop} {w : World} {e : TypeId} {v : Value} {E : List Value} {pat : Nat → Nat → Value} {size : Nat} (h : LAt S w e v E pat size) (hb : ∀ b, S b → S' b) : LAt S' w e v E pat size :=
  h.kept (Nat.le_refl _) (fun _ _ => rfl) fun b _ e => ⟨rfl, hb b e⟩
theorem LawOk.keptNodes {W0 : World} {own : Owns} {w w' : World} {wb : Nat} {Ps : List PD} {m : Nat} {k : Int} (h : LawOk W0 own w wb Ps m k) {B : Nat} (hB : ∀ b, (own b).isSome = true → b < B) (hW : W0.heap.size ≤ B) (hBw : B ≤ w.heap.size) {vA v : Value} {EA E : List Value} (hoA : ∀ b, vA.ownBlock = some b → own b = some (0, 4)) (hoN : ∀ b, v.ownBlock = some b → own b = some (0, 5)) (hEA : EA.length ≤ 20 * m) (hE : E.length ≤ 20 * m) (hE4 : E.length % 4 = 0)
    (hp : KeepPost (fun b => own b = some (0, 2)) B wb 1 vA v EA E w w') : ∃ own', LawOk W0 own' w' wb Ps (m + 1) k := by
  classical
  obtain ⟨ht, vA', EA', v', E', S', ca, fa, cb, fb, lA, lA4, lE, hA, hN, hSS, hSS', hvA, hv, hoth⟩ := hp
  have hwb : wb < B := hB wb (by rw [h.wo]; rfl)
  have hext : ∀ b, (own b).isSome = true → (if S' b then some (0, 2) else if vA'.ownBlock = some b then some (0, 4) else if v'.ownBlock = some b then some (0, 5) else own b) = own b := fun b hb => by
    have hlt := hB b hb
    by_cases e1 : S' b
    · rw [if_pos e1]
      rcases hSS' b e1 with e | e
      · exact e.symm
      · omega
    rw [if_neg e1]
    by_cases e2 : vA'.ownBlock = some b
    · rw [if_pos e2]
      rcases hvA b e2 with e | e
      · exact (hoA b e).symm
      · omega
    rw [if_neg e2]
    by_cases e3 : v'.ownBlock = some b
    · rw [if_pos e3]
      rcases (hv b e3).1 with e | e
      · exact (hoN b e).symm
      · omega
    · rw [if_neg e3]
  have hnot : ∀ b, (own b).isSome = true → own b ≠ some (0, 0) → own b ≠ some (0, 4) → own b ≠ some (0, 5) → ¬ (b = wb ∨ some b = vA.ownBlock ∨ some b = v.ownBlock ∨ B ≤ b) := fun b hb h1 h2 h3 e => by
    rcases e with e | e | e | e
    · rw [e] at h1; exact h1 h.wo
    · exact h2 (hoA b e.symm)
    · exact h3 (hoN b e.symm)
    · have := hB b hb; omega
  have hkb : ∀ b, (own b).isSome = true → own b ≠ some (0, 0) → own b ≠ some (0, 4) → own b ≠ some (0, 5) → w'.heap[b]? = w.heap[b]? := fun b hb h1 h2 h3 => ht.block b (h.low b hb).2 (hnot b hb h1 h2 h3)
  refine ⟨fun b => if S' b then some (0, 2) else if vA'.ownBlock = some b then some (0, 4) else if v'.ownBlock = some b then some (0, 5) else own b, h.booked (Nat.le_succ m) ht ?_ hext ?_ (hoth 0 (by omega) (by omega)) ?_ ?_⟩
  · intro b e
    rcases e with e | e | e | e
    · rw [e]; exact (h.low wb (by rw [h.wo]; rfl)).1
    · exact (h.low b (by rw [hoA b e.symm]; rfl)).1
    · exact (h.low b (by rw [hoN b e.symm]; rfl)).1
    · omega
  · intro b hb
    have hold : (own b).isSome = true → W0.heap.size ≤ b ∧ b < w'.heap.size := fun e => ⟨(h.low b e).1, Nat.lt_of_lt_of_le (h.low b e).2 ht.size⟩
    by_cases e1 : S' b
    · rcases hSS' b e1 with e | e
      · exact hold (by rw [e]; rfl)
      · exact ⟨by omega, e.2⟩
    by_cases e2 : vA'.ownBlock = some b
    · refine ⟨?_, (hA.row.lt b e2).2⟩
      rcases hvA b e2 with e | e
      · exact (hold (by rw [hoA b e]; rfl)).1
      · omega
    by_cases e3 : v'.ownBlock = some b
    · refine ⟨?_, (hN.row.lt b e3).2⟩
      rcases (hv b e3).1 with e | e
      · exact (hold (by rw [hoN b e]; rfl)).1
      · omega
    · replace hb : (if S' b then some (0, 2) else if vA'.ownBlock = some b then some (0, 4) else if v'.ownBlock = some b then some (0, 5) else own b).isSome = true := hb
      rw [if_neg e1, if_neg e2, if_neg e3] at hb
      exact hold hb
  · intro b e
    rcases e with e | ⟨i, j, e⟩
    · exact hnot b (by rw [e]; rfl) (by rw [e]; simp) (by rw [e]; simp) (by rw [e]; simp)
    · exact hnot b (by rw [e]; rfl) (by rw [e]; simp) (by rw [e]; simp) (by rw [e]; simp)
  · have hK : ∀ (kd : Nat), kd ≠ 1 → kd ≠ 2 → ∀ b, own b = some (0, 2) ∨ own b = some (0, 3 + kd) → w'.heap[b]? = w.heap[b]? ∧ (if S' b then some (0, 2) else if vA'.ownBlock = some b then some (0, 4) else if v'.ownBlock = some b then some (0, 5) else own b) = own b := fun kd h1 h2 b e => by
      have hs : (own b).isSome = true := by rcases e with e | e <;> rw [e] <;> rfl
      refine ⟨hkb b hs ?_ ?_ ?_, hext b hs⟩
      · rcases e with e | e <;> rw [e] <;> simp
      · rcases e with e | e <;> rw [e] <;> simp <;> omega
      · rcases e with e | e <;> rw [e] <;> simp <;> omega
    have hS2 : ∀ b, S' b → (if S' b then some (0, 2) else if vA'.ownBlock = some b then some (0, 4) else if v'.ownBlock = some b then some (0, 5) else own b) = some (0, 2) := fun b e => if_pos e
    refine ⟨?_, ⟨vA', EA', ca, fa, LAt.mono ⟨hA.row, hA.each⟩ hS2, lA4, by omega, fun b e => ?_⟩, ⟨v', E', cb, fb, LAt.mono ⟨hN.row, hN.each⟩ hS2, by omega, by omega, fun b e => ?_⟩, ?_, ?_, ?_⟩
    · exact h.book.nums.kept ht.size (by omega) (hoth _ (by omega) (by omega)) (hK 0 (by omega) (by omega))
    · show (if S' b then some (0, 2) else if vA'.ownBlock = some b then some (0, 4) else if v'.ownBlock = some b then some (0, 5) else own b) = some (0, 4)
      rw [if_neg (hA.apart b e), if_pos e]
    · show (if S' b then some (0, 2) else if vA'.ownBlock = some b then some (0, 4) else if v'.ownBlock = some b then some (0, 5) else own b) = some (0, 5)
      rw [if_neg (hN.apart b e), if_neg (hv b e).2, if_pos e]
    · exact h.book.pats.kept ht.size (by omega) (hoth _ (by omega) (by omega)) (hK 3 (by omega) (by omega))
    · exact h.book.evts.kept ht.size (by omega) (hoth _ (by omega) (by omega)) (hK 4 (by omega) (by omega))
    · exact h.book.coms.kept ht.size (by omega) (hoth _ (by omega) (by omega)) (hK 5 (by omega) (by omega))
def KeptOne (S : Nat → Prop) (wb kd : Nat) (ty : TypeId) (pat : Nat → Nat → Value) (size : Nat) (v : Value) (E : List Value) (l : Value) (w w' : World) : Prop :=
  Touch (fun b => b = wb ∨ some b = v.ownBlock ∨ some b = l.ownBlock) w w' ∧ ∃ v' E', w'.cell? ⟨wb, kd + 1, none⟩ = some v' ∧ w'.frozen? ⟨wb, kd + 1, none⟩ = false ∧ E'.length = E.length + 4 ∧ (∀ b, v'.ownBlock = some b → v.ownBlock = some b ∨ w.heap.size ≤ b) ∧ (∀ o, o ≠ kd + 1 → w'.cell? ⟨wb, o, none⟩ = w.cell? ⟨wb, o, none⟩ ∧ w'.frozen? ⟨wb, o, none⟩ = w.frozen? ⟨wb, o, none⟩) ∧
    LAt (fun b => S b ∨ some b = l.ownBlock ∨ (w.heap.size ≤ b ∧ b < w'.heap.size ∧ some b ≠ v'.ownBlock)) w' ty v' E' pat size ∧ ∀ b, v'.ownBlock = some b → ¬ (S b ∨ some b = l.ownBlock ∨ (w.heap.size ≤ b ∧ b < w'.heap.size ∧ some b ≠ v'.ownBlock))
theorem LawOk.keptOne {W0 : World} {own : Owns} {w w' : World} {wb : Nat} {Ps : List PD} {m : Nat} {k : Int} (h : LawOk W0 own w wb Ps m k) (kd : Nat) {ty : TypeId} {pat : Nat → Nat → Value} {size : Nat} {v : Value} {E : List Value} {l : Value} (ho : ∀ b, v.ownBlock = some b → own b = some (0, 3 + kd)) (hlo : ∀ b, l.ownBlock = some b → own b = none ∧ W0.heap.size ≤ b ∧ b < w.heap.size) (hE : E.length ≤ 20 * m) (hE4 : E.length % 4 = 0)
    (hp : KeptOne (fun b => own b = some (0, 2)) wb kd ty pat size v E l w w') :
    ∃ own', (BookOk own w wb (20 * m) → KindAt own' w' wb kd (20 * (m + 1)) ty pat size → (∀ kd', kd' ≠ kd → ∀ {ty' : TypeId} {pat' : Nat → Nat → Value} {size' : Nat}, KindAt own w wb kd' (20 * m) ty' pat' size' → KindAt own' w' wb kd' (20 * (m + 1)) ty' pat' size') → BookOk own' w' wb (20 * (m + 1))) → LawOk W0 own' w' wb Ps (m + 1) k := by
  classical
  obtain ⟨ht, v', E', ca, fa, lE, hv, hoth, hA, hap⟩ := hp
  have hext : ∀ b, (own b).isSome = true → (if v'.ownBlock = some b then some (0, 3 + kd) else if l.ownBlock = some b ∨ (w.heap.size ≤ b ∧ b < w'.heap.size) then some (0, 2) else own b) = own b := fun b hb => by
    have hlt := (h.low b hb).2
    by_cases e2 : v'.ownBlock = some b
    · rw [if_pos e2]
      rcases hv b e2 with e | e
      · exact (ho b e).symm
      · omega
    rw [if_neg e2, if_neg]
    intro e
    rcases e with e | e
    · rw [(hlo b e).1] at hb; cases hb
    · omega
  have hnot : ∀ b, (own b).isSome = true → own b ≠ some (0, 0) → own b ≠ some (0, 3 + kd) → ¬ (b = wb ∨ some b = v.ownBlock ∨ some b = l.ownBlock) := fun b hb h1 h2 e => by
    rcases e with e | e | e
    · rw [e] at h1; exact h1 h.wo
    · exact h2 (ho b e.symm)
    · rw [(hlo b e.symm).1] at hb; cases hb
  have hkb : ∀ b, (own b).isSome = true → own b ≠ some (0, 0) → own b ≠ some (0, 3 + kd) → w'.heap[b]? = w.heap[b]? := fun b hb h1 h2 => ht.block b (h.low b hb).2 (hnot b hb h1 h2)
  refine ⟨fun b => if v'.ownBlock = some b then some (0, 3 + kd) else if l.ownBlock = some b ∨ (w.heap.size ≤ b ∧ b < w'.heap.size) then some (0, 2) else own b, fun hbook => h.booked (Nat.le_succ m) ht ?_ hext ?_ (hoth 0 (by omega)) ?_ (hbook h.book ?_ ?_)⟩
  · intro b e
    rcases e with e | e | e
    · rw [e]; exact (h.low wb (by rw [h.wo]; rfl)).1
    · exact (h.low b (by rw [ho b e.symm]; rfl)).1
    · exact (hlo b e.symm).2.1
  · intro b hb
    have hold : (own b).isSome = true → W0.heap.size ≤ b ∧ b < w'.heap.size := fun e => ⟨(h.low b e).1, Nat.lt_of_lt_of_le (h.low b e).2 ht.size⟩
    have hW : W0.heap.size ≤ w.heap.size := h.base.size
    by_cases e2 : v'.ownBlock = some b
    · refine ⟨?_, (hA.row.lt b e2).2⟩
      rcases hv b e2 with e | e
      · exact (hold (by rw [ho b e]; rfl)).1
      · omega
    by_cases e3 : l.ownBlock = some b ∨ (w.heap.size ≤ b ∧ b < w'.heap.size)
    · rcases e3 with e | e
      · exact ⟨(hlo b e).2.1, Nat.lt_of_lt_of_le (hlo b e).2.2 ht.size⟩
      · exact ⟨by omega, e.2⟩
    · replace hb : (if v'.ownBlock = some b then some (0, 3 + kd) else if l.ownBlock = some b ∨ (w.heap.size ≤ b ∧ b < w'.heap.size) then some (0, 2) else own b).isSome = true := hb
      rw [if_neg e2, if_neg e3] at hb
      exact hold hb
  · intro b e
    rcases e with e | ⟨i, j, e⟩
    · exact hnot b (by rw [e]; rfl) (by rw [e]; simp) (by rw [e]; simp; omega)
    · exact hnot b (by rw [e]; rfl) (by rw [e]; simp) (by rw [e]; simp)
  · refine ⟨v', E', ca, fa, hA.mono fun b e => ?_, by omega, by omega, fun b e => if_pos e⟩
    have hnv : ¬ v'.ownBlock = some b := fun e2 => hap b e2 e
    show (if v'.ownBlock = some b then some (0, 3 + kd) else if l.ownBlock = some b ∨ (w.heap.size ≤ b ∧ b < w'.heap.size) then some (0, 2) else own b) = some (0, 2)
    rw [if_neg hnv]
    by_cases e3 : l.ownBlock = some b ∨ (w.heap.size ≤ b ∧ b < w'.heap.size)
    · rw [if_pos e3]
    · rw [if_neg e3]
      rcases e with e | e | e
      · exact e
      · exact absurd (.inl e.symm) e3
      · exact absurd (.inr ⟨e.1, e.2.1⟩) e3
  · intro kd' hne ty' pat' size' hk
    refine hk.kept ht.size (by omega) (hoth _ (by omega)) fun b e => ?_
    have hs : (own b).isSome = true := by rcases e with e | e <;> rw [e] <;> rfl
    refine ⟨hkb b hs ?_ ?_, hext b hs⟩
    · rcases e with e | e <;> rw [e] <;> simp
    · rcases e with e | e <;> rw [e] <;> simp <;> omega
end Go.Proofs.YtobgcaemnpkbmaaGreat
