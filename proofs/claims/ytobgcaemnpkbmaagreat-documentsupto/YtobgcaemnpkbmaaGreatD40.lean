/- Still -/
import Derived.Test.YtobgcaemnpkbmaaGreatD38
import Derived.BigQuiet
namespace Go.Proofs.YtobgcaemnpkbmaaGreat
open Go.RowKit
def pchPat (m : Int) : Nat → Value := fun r => match r with | 0 => .int .i64 m | 1 => .int .i64 0 | 2 => .int .i64 0 | 3 => .int .i64 0 | 4 => .int .i64 0 | _ => .string ⟨#[]⟩
def evtPat (m : Int) : Nat → Value := fun r => match r with | 1 => .int .i64 m | _ => .int .i64 0
def comPat (m : Int) : Nat → Value := fun r => match r with | 0 => .int .i64 m | _ => .int .i64 0
structure LAt (S : Nat → Prop) (w : World) (e : TypeId) (v : Value) (E : List Value) (pat : Nat → Nat → Value) (size : Nat) : Prop where
  row : w.ownsRow 0 e 1 v E.length E
  each : ∀ i, (hi : i < E.length) → Marked S (pat i) size w E[i]
theorem LAt.get {S : Nat → Prop} {w : World} {e : TypeId} {ao : Option Addr} {cp : Nat} {E : List Value} {pat : Nat → Nat → Value} {size : Nat} (h : LAt S w e (.slice ao E.length cp) E pat size) (hs : 0 < size) {i : Nat} (hi : i < E.length) :
    ∃ rb, ao = some ⟨rb, 0, none⟩ ∧ rb < w.heap.size ∧ ∃ lo n c, w.cell? ⟨rb, i, none⟩ = some (.slice lo n c) ∧ n ≤ 1099511627776 ∧ ∀ j, j < n → ∃ b, lo = some ⟨b, 0, none⟩ ∧ b < w.heap.size ∧ ∀ r, r < size → w.cell? ⟨b, j * size + r, none⟩ = some (pat i r) := by
  rcases h.row.2 with ⟨_, e⟩ | ⟨rb, cap, cur, e, _, hg, _⟩
  · omega
  · simp only [Value.slice.injEq] at e
    obtain ⟨rfl, _, rfl⟩ := e
    obtain ⟨lo, n, c, e1, hn, ho, hc⟩ := h.each i hi
    refine ⟨rb, rfl, (Array.getElem?_eq_some_iff.1 hg).1, lo, n, c, ?_, hn, fun j hj => ?_⟩
    · rw [h.row.cellAt i (by omega), List.getElem?_eq_getElem hi, e1]
    · have hjs : j * size < n * size := (Nat.mul_lt_mul_right hs).2 hj
      obtain ⟨b, e2, _⟩ := hc (j * size) hjs
      refine ⟨b, e2, (ho _ e2).2, fun r hr => ?_⟩
      have h3 : j * size + r < n * size := by
        have : (j + 1) * size ≤ n * size := Nat.mul_le_mul_right size hj
        rw [Nat.add_mul] at this
        omega
      obtain ⟨b', e3, e4⟩ := hc (j * size + r) h3
      rw [e2] at e3
      cases e3
      rw [e4, Nat.mul_comm, Nat.mul_add_mod, Nat.mod_eq_of_lt hr]
set_option maxRecDepth 100000 in
set_option maxHeartbeats 8000000 in
theorem still_any (S : Nat → Prop) (bb bo : Nat) (w : World) (vN : Value) (EN : List Value) (lN : EN.length ≤ 17179869184) (cN : w.cell? ⟨bb, bo, none⟩ = some vN) (hN : LAt S w 69 vN EN (fun i => numPat (numMark i)) 1) (vA : Value) (EA : List Value) (lA : EA.length ≤ 17179869184) (cA : w.cell? ⟨bb, bo + 1, none⟩ = some vA) (hA : LAt S w 31 vA EA (fun i => attPat (attMark i)) 2) (vO : Value) (EO : List Value) (lO : EO.length ≤ 17179869184) (cO : w.cell? ⟨bb, bo + 2, none⟩ = some vO) (hO : LAt S w 24 vO EO (fun i => nodPat (numMark i)) 5) (vP : Value) (EP : List Value) (lP : EP.length ≤ 17179869184) (cP : w.cell? ⟨bb, bo + 3, none⟩ = some vP) (hP : LAt S w 25 vP EP (fun i => pchPat (numMark i)) 8) (vV : Value) (EV : List Value) (lV : EV.length ≤ 17179869184) (cV : w.cell? ⟨bb, bo + 4, none⟩ = some vV) (hV : LAt S w 75 vV EV (fun i => evtPat (numMark i)) 4) (vC : Value) (EC : List Value) (lC : EC.length ≤ 17179869184) (cC : w.cell? ⟨bb, bo + 5, none⟩ = some vC) (hC : LAt S w 78 vC EC (fun i => comPat (numMark i)) 2) :
    Calls Tryz.prog 8 #[.pointer (some ⟨bb, bo, none⟩)] w fun e w' => e = .returned (.bool true) ∧ Below w.heap.size w w' := by
  have lbb := block_lt_of_cell cN
  obtain ⟨aN, pN, rfl⟩ := own_shape hN.row
  have HN := hide hN
  obtain ⟨aA, pA, rfl⟩ := own_shape hA.row
  have HA := hide hA
  obtain ⟨aO, pO, rfl⟩ := own_shape hO.row
  have HO := hide hO
  obtain ⟨aP, pP, rfl⟩ := own_shape hP.row
  have HP := hide hP
  obtain ⟨aV, pV, rfl⟩ := own_shape hV.row
  have HV := hide hV
  obtain ⟨aC, pC, rfl⟩ := own_shape hC.row
  have HC := hide hC
  clear hN hA hO hP hV hC
  have lbb : bb < w.heap.size := lbb
  have heq : ∀ w a l c, (binOp .eql 31 (.slice a l c) (.slice none 0 0)).run Tryz.prog w = .ok (.bool a.isNone) w := fun w a l c =>
    Lib.run_eql_slice_nil (P := Tryz.prog) w 31 72 a l c 0 0 Tryz.underlying31
  go_enter Tryz.func8, Tryz.ntmps8
  go_wp2_with fail
  go_loopw [3, 4, 5] (fun ok i _ wr => ∃ k : Nat, k ≤ EN.length ∧ ok = .bool true ∧ i = .int .i64 k ∧ Hid (Below w.heap.size w wr)) (fun _ i _ _ => EN.length - (intOf i).toNat)
  case atStart => exact ⟨0, Nat.zero_le _, rfl, rfl, hide (Below.refl _ _)⟩
  case round =>
    obtain ⟨k, hk, rfl, rfl, hbN⟩ := hrel
    obtain ⟨wo, rfl⟩ : ∃ wo, wo = wr := ⟨_, rfl⟩
    have cf := (hbN.out.cell (p := ⟨bb, bo, none⟩) (by show bb < _; exact lbb)).trans cN
    by_cases hlt : k < EN.length
    · obtain ⟨rb, rfl, hrb, lo, m, lc, hrc, hm, hcell⟩ := HN.out.get (by omega) hlt
      have rc := (hbN.out.cell (p := ⟨rb, k, none⟩) hrb).trans hrc
      have HC := hide hcell
      have i1 : (0 : Int) ≤ (k : Int) := by omega
      have i2 : (k : Int) < (EN.length : Int) := by omega
      have HSz := hide hbN.out.size
      clear hcell hrc
      go_wp2_with fail
      go_loopw [3, 5] (fun ok j wi => ∃ j' : Nat, j' ≤ m ∧ ok = .bool true ∧ j = .int .i64 j' ∧ Hid (Below wo.heap.size wo wi)) (fun _ j _ => m - (intOf j).toNat)
      case atStart => exact ⟨0, Nat.zero_le _, rfl, rfl, hide (Below.refl _ _)⟩
      case round =>
        obtain ⟨j', hj', rfl, rfl, hbi⟩ := hrel
        have hbw := hbN.out.trans (hbi.out.mono hbN.out.size)
        have cg := (hbw.cell (p := ⟨bb, bo, none⟩) (by show bb < _; exact lbb)).trans cN
        have rg := (hbi.out.cell (p := ⟨rb, k, none⟩) (by show rb < _; have := hbN.out.size; omega)).trans rc
        by_cases hjt : j' < m
        · obtain ⟨lb, rfl, hlb, hx⟩ := HC.out j' hjt
          have x0 : wr.cell? ⟨lb, j', none⟩ = some (.int .i64 (-1000 - (k : Int) / 4)) := (hbw.cell (p := ⟨lb, _, none⟩) hlb).trans (by have := hx 0 (by omega); rw [Nat.mul_one] at this; exact this)
          have j1 : (0 : Int) ≤ (j' : Int) := by omega
          have j2 : (j' : Int) < (m : Int) := by omega
          clear hx hbw
          go_wp2_with fail
          go_roundw
          case rel => exact ⟨j' + 1, by omega, rfl, by go_num, hbi⟩
          case measure => simp [intOf]; omega
        · go_wp2_with fail
          go_roundw
          case rel => exact ⟨k + 1, by omega, rfl, by go_num, hide hbw⟩
          case measure => simp [intOf]; omega
    · have hkn : k = EN.length := by omega
      clear hkn
      go_wp2_with fail
      go_loopw [3, 6, 7, 8] (fun ok i _ _ wr => ∃ k : Nat, k ≤ EA.length ∧ ok = .bool true ∧ i = .int .i64 k ∧ Hid (Below w.heap.size w wr)) (fun _ i _ _ _ => EA.length - (intOf i).toNat)
      case atStart => exact ⟨0, Nat.zero_le _, rfl, rfl, hbN⟩
      case round =>
        obtain ⟨k, hk, rfl, rfl, hbA⟩ := hrel
        obtain ⟨wo, rfl⟩ : ∃ wo, wo = wr := ⟨_, rfl⟩
        have cf := (hbA.out.cell (p := ⟨bb, bo + 1, none⟩) (by show bb < _; exact lbb)).trans cA
        by_cases hlt : k < EA.length
        · obtain ⟨rb, rfl, hrb, lo, m, lc, hrc, hm, hcell⟩ := HA.out.get (by omega) hlt
          have rc := (hbA.out.cell (p := ⟨rb, k, none⟩) hrb).trans hrc
          have HC := hide hcell
          have i1 : (0 : Int) ≤ (k : Int) := by omega
          have i2 : (k : Int) < (EA.length : Int) := by omega
          have HSz := hide hbA.out.size
          clear hcell hrc
          have HMk : Hid (∀ w, Calls Tryz.prog 20 #[.int .i64 ((k : Int) / 4)] w fun e w' => e = .returned (.string (attMark k)) ∧ w = w') := hide fun w => by
            have := mark_any (k / 4) w (by omega)
            have e : (((k / 4 : Nat) : Int)) = (k : Int) / 4 := by omega
            rw [e] at this
            exact this.mono fun _ _ h => ⟨h.1, h.2.symm⟩
          go_wp2_with (first | (go_at_call 20; refine (unhide HMk _).mono ?_; rintro e w1 ⟨rfl, rfl⟩))
          generalize hwx : wo.alloc (.cells #[.string (attMark k), .string ⟨#[]⟩] 72) = wx
          have hbx : Below wo.heap.size wo wx := by rw [← hwx]; exact (Below.refl _ _).alloc (Nat.le_refl _) _
          have hsx : wo.heap.size < wx.heap.size := by rw [← hwx]; simp
          have b0 : wx.cell? ⟨wo.heap.size, 0, none⟩ = some (.string (attMark k)) := by rw [← hwx]; simp [go_sem]
          have b1 : wx.cell? ⟨wo.heap.size, 1, none⟩ = some (.string ⟨#[]⟩) := by rw [← hwx]; simp [go_sem]
          have HBx := hide (hbA.out.trans (hbx.mono HSz.out))
          clear hwx hbx
          go_loopw [3, 8] (fun ok j wi => ∃ j' : Nat, j' ≤ m ∧ ok = .bool true ∧ j = .int .i64 j' ∧ Hid (Below wx.heap.size wx wi)) (fun _ j _ => m - (intOf j).toNat)
          case atStart => exact ⟨0, Nat.zero_le _, rfl, rfl, hide (Below.refl _ _)⟩
          case round =>
            obtain ⟨j', hj', rfl, rfl, hbi⟩ := hrel
            have hbw := HBx.out.trans (hbi.out.mono HBx.out.size)
            have cg := (hbw.cell (p := ⟨bb, bo + 1, none⟩) (by show bb < _; exact lbb)).trans cA
            have rg := (hbi.out.cell (p := ⟨rb, k, none⟩) (by show rb < _; have := HBx.out.size; omega)).trans ((HBx.out.cell (p := ⟨rb, k, none⟩) hrb).trans ((hbA.out.cell (p := ⟨rb, k, none⟩) hrb).symm.trans rc))
            by_cases hjt : j' < m
            · obtain ⟨lb, rfl, hlb, hx⟩ := HC.out j' hjt
              have x0 : wr.cell? ⟨lb, j' * 2, none⟩ = some (.string (attMark k)) := (hbw.cell (p := ⟨lb, _, none⟩) hlb).trans (hx 0 (by omega))
              have x1 : wr.cell? ⟨lb, j' * 2 + 1, none⟩ = some (.string ⟨#[]⟩) := (hbw.cell (p := ⟨lb, _, none⟩) hlb).trans (hx 1 (by omega))
              have d0 := (hbi.out.cell (p := ⟨wo.heap.size, 0, none⟩) hsx).trans b0
              have d1 := (hbi.out.cell (p := ⟨wo.heap.size, 1, none⟩) hsx).trans b1
              have j1 : (0 : Int) ≤ (j' : Int) := by omega
              have j2 : (j' : Int) < (m : Int) := by omega
              clear hx hbw
              go_wp2_with fail
              go_big_quiet (fail)
              go_wp2_with fail
              go_roundw
              case rel => exact ⟨j' + 1, by omega, rfl, by go_num, hide (drewN_of hbi.out _)⟩
              case measure => simp [intOf]; omega
            · go_wp2_with fail
              go_roundw
              case rel => exact ⟨k + 1, by omega, rfl, by go_num, hide hbw⟩
              case measure => simp [intOf]; omega
        · have hkn : k = EA.length := by omega
          clear hkn
          go_wp2_with fail
          go_loopw [3, 9, 10, 11] (fun ok i _ _ wr => ∃ k : Nat, k ≤ EO.length ∧ ok = .bool true ∧ i = .int .i64 k ∧ Hid (Below w.heap.size w wr)) (fun _ i _ _ _ => EO.length - (intOf i).toNat)
          case atStart => exact ⟨0, Nat.zero_le _, rfl, rfl, hbA⟩
          case round =>
            obtain ⟨k, hk, rfl, rfl, hbO⟩ := hrel
            obtain ⟨wo, rfl⟩ : ∃ wo, wo = wr := ⟨_, rfl⟩
            have cf := (hbO.out.cell (p := ⟨bb, bo + 2, none⟩) (by show bb < _; exact lbb)).trans cO
            by_cases hlt : k < EO.length
            · obtain ⟨rb, rfl, hrb, lo, m, lc, hrc, hm, hcell⟩ := HO.out.get (by omega) hlt
              have rc := (hbO.out.cell (p := ⟨rb, k, none⟩) hrb).trans hrc
              have HC := hide hcell
              have i1 : (0 : Int) ≤ (k : Int) := by omega
              have i2 : (k : Int) < (EO.length : Int) := by omega
              have HSz := hide hbO.out.size
              clear hcell hrc
              go_wp2_with fail
              go_loopw [3, 10, 11] (fun ok j _ wi => ∃ j' : Nat, j' ≤ m ∧ ok = .bool true ∧ j = .int .i64 j' ∧ Hid (Below wo.heap.size wo wi)) (fun _ j _ _ => m - (intOf j).toNat)
              case atStart => exact ⟨0, Nat.zero_le _, rfl, rfl, hide (Below.refl _ _)⟩
              case round =>
                obtain ⟨j', hj', rfl, rfl, hbi⟩ := hrel
                have hbw := hbO.out.trans (hbi.out.mono hbO.out.size)
                have cg := (hbw.cell (p := ⟨bb, bo + 2, none⟩) (by show bb < _; exact lbb)).trans cO
                have rg := (hbi.out.cell (p := ⟨rb, k, none⟩) (by show rb < _; have := hbO.out.size; omega)).trans rc
                by_cases hjt : j' < m
                · obtain ⟨lb, rfl, hlb, hx⟩ := HC.out j' hjt
                  have x0 : wr.cell? ⟨lb, j' * 5, none⟩ = some (.int .i64 0) := (hbw.cell (p := ⟨lb, _, none⟩) hlb).trans (hx 0 (by omega))
                  have x1 : wr.cell? ⟨lb, j' * 5 + 1, none⟩ = some (.string ⟨#[]⟩) := (hbw.cell (p := ⟨lb, _, none⟩) hlb).trans (hx 1 (by omega))
                  have x2 : wr.cell? ⟨lb, j' * 5 + 2, none⟩ = some (.int .i64 (-1000 - (k : Int) / 4)) := (hbw.cell (p := ⟨lb, _, none⟩) hlb).trans (hx 2 (by omega))
                  have x3 : wr.cell? ⟨lb, j' * 5 + 3, none⟩ = some (.slice none 0 0) := (hbw.cell (p := ⟨lb, _, none⟩) hlb).trans (hx 3 (by omega))
                  have x4 : wr.cell? ⟨lb, j' * 5 + 4, none⟩ = some (.string ⟨#[]⟩) := (hbw.cell (p := ⟨lb, _, none⟩) hlb).trans (hx 4 (by omega))
                  have j1 : (0 : Int) ≤ (j' : Int) := by omega
                  have j2 : (j' : Int) < (m : Int) := by omega
                  clear hx hbw
                  go_wp2_with fail
                  go_roundw
                  case rel => exact ⟨j' + 1, by omega, rfl, by go_num, hide (hbi.out.alloc hbi.out.size _)⟩
                  case measure => simp [intOf]; omega
                · go_wp2_with fail
                  go_roundw
                  case rel => exact ⟨k + 1, by omega, rfl, by go_num, hide hbw⟩
                  case measure => simp [intOf]; omega
            · have hkn : k = EO.length := by omega
              clear hkn
              go_wp2_with fail
              go_loopw [3, 12, 13, 14] (fun ok i _ _ wr => ∃ k : Nat, k ≤ EP.length ∧ ok = .bool true ∧ i = .int .i64 k ∧ Hid (Below w.heap.size w wr)) (fun _ i _ _ _ => EP.length - (intOf i).toNat)
              case atStart => exact ⟨0, Nat.zero_le _, rfl, rfl, hbO⟩
              case round =>
                obtain ⟨k, hk, rfl, rfl, hbP⟩ := hrel
                obtain ⟨wo, rfl⟩ : ∃ wo, wo = wr := ⟨_, rfl⟩
                have cf := (hbP.out.cell (p := ⟨bb, bo + 3, none⟩) (by show bb < _; exact lbb)).trans cP
                by_cases hlt : k < EP.length
                · obtain ⟨rb, rfl, hrb, lo, m, lc, hrc, hm, hcell⟩ := HP.out.get (by omega) hlt
                  have rc := (hbP.out.cell (p := ⟨rb, k, none⟩) hrb).trans hrc
                  have HC := hide hcell
                  have i1 : (0 : Int) ≤ (k : Int) := by omega
                  have i2 : (k : Int) < (EP.length : Int) := by omega
                  have HSz := hide hbP.out.size
                  clear hcell hrc
                  go_wp2_with fail
                  generalize hwx : wo.alloc (.cells #[.int .i64 (-1000 - (k : Int) / 4), .int .i64 0, .int .i64 0, .int .i64 0, .int .i64 0, .string ⟨#[]⟩, .string ⟨#[]⟩, .string ⟨#[]⟩] 29) = wx
                  have hbx : Below wo.heap.size wo wx := by rw [← hwx]; exact (Below.refl _ _).alloc (Nat.le_refl _) _
                  have hsx : wo.heap.size < wx.heap.size := by rw [← hwx]; simp
                  have b0 : wx.cell? ⟨wo.heap.size, 0, none⟩ = some (.int .i64 (-1000 - (k : Int) / 4)) := by rw [← hwx]; simp [go_sem]
                  have b1 : wx.cell? ⟨wo.heap.size, 1, none⟩ = some (.int .i64 0) := by rw [← hwx]; simp [go_sem]
                  have b2 : wx.cell? ⟨wo.heap.size, 2, none⟩ = some (.int .i64 0) := by rw [← hwx]; simp [go_sem]
                  have b3 : wx.cell? ⟨wo.heap.size, 3, none⟩ = some (.int .i64 0) := by rw [← hwx]; simp [go_sem]
                  have b4 : wx.cell? ⟨wo.heap.size, 4, none⟩ = some (.int .i64 0) := by rw [← hwx]; simp [go_sem]
                  have b5 : wx.cell? ⟨wo.heap.size, 5, none⟩ = some (.string ⟨#[]⟩) := by rw [← hwx]; simp [go_sem]
                  have b6 : wx.cell? ⟨wo.heap.size, 6, none⟩ = some (.string ⟨#[]⟩) := by rw [← hwx]; simp [go_sem]
                  have b7 : wx.cell? ⟨wo.heap.size, 7, none⟩ = some (.string ⟨#[]⟩) := by rw [← hwx]; simp [go_sem]
                  have HBx := hide (hbP.out.trans (hbx.mono HSz.out))
                  clear hwx hbx
                  go_loopw [3, 14] (fun ok j wi => ∃ j' : Nat, j' ≤ m ∧ ok = .bool true ∧ j = .int .i64 j' ∧ Hid (Below wx.heap.size wx wi)) (fun _ j _ => m - (intOf j).toNat)
                  case atStart => exact ⟨0, Nat.zero_le _, rfl, rfl, hide (Below.refl _ _)⟩
                  case round =>
                    obtain ⟨j', hj', rfl, rfl, hbi⟩ := hrel
                    have hbw := HBx.out.trans (hbi.out.mono HBx.out.size)
                    have cg := (hbw.cell (p := ⟨bb, bo + 3, none⟩) (by show bb < _; exact lbb)).trans cP
                    have rg := (hbi.out.cell (p := ⟨rb, k, none⟩) (by show rb < _; have := HBx.out.size; omega)).trans ((HBx.out.cell (p := ⟨rb, k, none⟩) hrb).trans ((hbP.out.cell (p := ⟨rb, k, none⟩) hrb).symm.trans rc))
                    by_cases hjt : j' < m
                    · obtain ⟨lb, rfl, hlb, hx⟩ := HC.out j' hjt
                      have x0 : wr.cell? ⟨lb, j' * 8, none⟩ = some (.int .i64 (-1000 - (k : Int) / 4)) := (hbw.cell (p := ⟨lb, _, none⟩) hlb).trans (hx 0 (by omega))
                      have x1 : wr.cell? ⟨lb, j' * 8 + 1, none⟩ = some (.int .i64 0) := (hbw.cell (p := ⟨lb, _, none⟩) hlb).trans (hx 1 (by omega))
                      have x2 : wr.cell? ⟨lb, j' * 8 + 2, none⟩ = some (.int .i64 0) := (hbw.cell (p := ⟨lb, _, none⟩) hlb).trans (hx 2 (by omega))
                      have x3 : wr.cell? ⟨lb, j' * 8 + 3, none⟩ = some (.int .i64 0) := (hbw.cell (p := ⟨lb, _, none⟩) hlb).trans (hx 3 (by omega))
                      have x4 : wr.cell? ⟨lb, j' * 8 + 4, none⟩ = some (.int .i64 0) := (hbw.cell (p := ⟨lb, _, none⟩) hlb).trans (hx 4 (by omega))
                      have x5 : wr.cell? ⟨lb, j' * 8 + 5, none⟩ = some (.string ⟨#[]⟩) := (hbw.cell (p := ⟨lb, _, none⟩) hlb).trans (hx 5 (by omega))
                      have x6 : wr.cell? ⟨lb, j' * 8 + 6, none⟩ = some (.string ⟨#[]⟩) := (hbw.cell (p := ⟨lb, _, none⟩) hlb).trans (hx 6 (by omega))
                      have x7 : wr.cell? ⟨lb, j' * 8 + 7, none⟩ = some (.string ⟨#[]⟩) := (hbw.cell (p := ⟨lb, _, none⟩) hlb).trans (hx 7 (by omega))
                      have d0 := (hbi.out.cell (p := ⟨wo.heap.size, 0, none⟩) hsx).trans b0
                      have d1 := (hbi.out.cell (p := ⟨wo.heap.size, 1, none⟩) hsx).trans b1
                      have d2 := (hbi.out.cell (p := ⟨wo.heap.size, 2, none⟩) hsx).trans b2
                      have d3 := (hbi.out.cell (p := ⟨wo.heap.size, 3, none⟩) hsx).trans b3
                      have d4 := (hbi.out.cell (p := ⟨wo.heap.size, 4, none⟩) hsx).trans b4
                      have d5 := (hbi.out.cell (p := ⟨wo.heap.size, 5, none⟩) hsx).trans b5
                      have d6 := (hbi.out.cell (p := ⟨wo.heap.size, 6, none⟩) hsx).trans b6
                      have d7 := (hbi.out.cell (p := ⟨wo.heap.size, 7, none⟩) hsx).trans b7
                      have j1 : (0 : Int) ≤ (j' : Int) := by omega
                      have j2 : (j' : Int) < (m : Int) := by omega
                      clear hx hbw
                      go_wp2_with fail
                      go_big_quiet (fail)
                      go_wp2_with fail
                      go_roundw
                      case rel => exact ⟨j' + 1, by omega, rfl, by go_num, hide (drewN_of hbi.out _)⟩
                      case measure => simp [intOf]; omega
                    · go_wp2_with fail
                      go_roundw
                      case rel => exact ⟨k + 1, by omega, rfl, by go_num, hide hbw⟩
                      case measure => simp [intOf]; omega
                · have hkn : k = EP.length := by omega
                  clear hkn
                  go_wp2_with fail
                  go_loopw [3, 15, 16, 17] (fun ok i _ _ wr => ∃ k : Nat, k ≤ EV.length ∧ ok = .bool true ∧ i = .int .i64 k ∧ Hid (Below w.heap.size w wr)) (fun _ i _ _ _ => EV.length - (intOf i).toNat)
                  case atStart => exact ⟨0, Nat.zero_le _, rfl, rfl, hbP⟩
                  case round =>
                    obtain ⟨k, hk, rfl, rfl, hbV⟩ := hrel
                    obtain ⟨wo, rfl⟩ : ∃ wo, wo = wr := ⟨_, rfl⟩
                    have cf := (hbV.out.cell (p := ⟨bb, bo + 4, none⟩) (by show bb < _; exact lbb)).trans cV
                    by_cases hlt : k < EV.length
                    · obtain ⟨rb, rfl, hrb, lo, m, lc, hrc, hm, hcell⟩ := HV.out.get (by omega) hlt
                      have rc := (hbV.out.cell (p := ⟨rb, k, none⟩) hrb).trans hrc
                      have HC := hide hcell
                      have i1 : (0 : Int) ≤ (k : Int) := by omega
                      have i2 : (k : Int) < (EV.length : Int) := by omega
                      have HSz := hide hbV.out.size
                      clear hcell hrc
                      go_wp2_with fail
                      generalize hwx : wo.alloc (.cells #[.int .i64 0, .int .i64 (-1000 - (k : Int) / 4), .int .i64 0, .int .i64 0] 74) = wx
                      have hbx : Below wo.heap.size wo wx := by rw [← hwx]; exact (Below.refl _ _).alloc (Nat.le_refl _) _
                      have hsx : wo.heap.size < wx.heap.size := by rw [← hwx]; simp
                      have b0 : wx.cell? ⟨wo.heap.size, 0, none⟩ = some (.int .i64 0) := by rw [← hwx]; simp [go_sem]
                      have b1 : wx.cell? ⟨wo.heap.size, 1, none⟩ = some (.int .i64 (-1000 - (k : Int) / 4)) := by rw [← hwx]; simp [go_sem]
                      have b2 : wx.cell? ⟨wo.heap.size, 2, none⟩ = some (.int .i64 0) := by rw [← hwx]; simp [go_sem]
                      have b3 : wx.cell? ⟨wo.heap.size, 3, none⟩ = some (.int .i64 0) := by rw [← hwx]; simp [go_sem]
                      have HBx := hide (hbV.out.trans (hbx.mono HSz.out))
                      clear hwx hbx
                      go_loopw [3, 17] (fun ok j wi => ∃ j' : Nat, j' ≤ m ∧ ok = .bool true ∧ j = .int .i64 j' ∧ Hid (Below wx.heap.size wx wi)) (fun _ j _ => m - (intOf j).toNat)
                      case atStart => exact ⟨0, Nat.zero_le _, rfl, rfl, hide (Below.refl _ _)⟩
                      case round =>
                        obtain ⟨j', hj', rfl, rfl, hbi⟩ := hrel
                        have hbw := HBx.out.trans (hbi.out.mono HBx.out.size)
                        have cg := (hbw.cell (p := ⟨bb, bo + 4, none⟩) (by show bb < _; exact lbb)).trans cV
                        have rg := (hbi.out.cell (p := ⟨rb, k, none⟩) (by show rb < _; have := HBx.out.size; omega)).trans ((HBx.out.cell (p := ⟨rb, k, none⟩) hrb).trans ((hbV.out.cell (p := ⟨rb, k, none⟩) hrb).symm.trans rc))
                        by_cases hjt : j' < m
                        · obtain ⟨lb, rfl, hlb, hx⟩ := HC.out j' hjt
                          have x0 : wr.cell? ⟨lb, j' * 4, none⟩ = some (.int .i64 0) := (hbw.cell (p := ⟨lb, _, none⟩) hlb).trans (hx 0 (by omega))
                          have x1 : wr.cell? ⟨lb, j' * 4 + 1, none⟩ = some (.int .i64 (-1000 - (k : Int) / 4)) := (hbw.cell (p := ⟨lb, _, none⟩) hlb).trans (hx 1 (by omega))
                          have x2 : wr.cell? ⟨lb, j' * 4 + 2, none⟩ = some (.int .i64 0) := (hbw.cell (p := ⟨lb, _, none⟩) hlb).trans (hx 2 (by omega))
                          have x3 : wr.cell? ⟨lb, j' * 4 + 3, none⟩ = some (.int .i64 0) := (hbw.cell (p := ⟨lb, _, none⟩) hlb).trans (hx 3 (by omega))
                          have d0 := (hbi.out.cell (p := ⟨wo.heap.size, 0, none⟩) hsx).trans b0
                          have d1 := (hbi.out.cell (p := ⟨wo.heap.size, 1, none⟩) hsx).trans b1
                          have d2 := (hbi.out.cell (p := ⟨wo.heap.size, 2, none⟩) hsx).trans b2
                          have d3 := (hbi.out.cell (p := ⟨wo.heap.size, 3, none⟩) hsx).trans b3
                          have j1 : (0 : Int) ≤ (j' : Int) := by omega
                          have j2 : (j' : Int) < (m : Int) := by omega
                          clear hx hbw
                          go_wp2_with fail
                          go_big_quiet (fail)
                          go_wp2_with fail
                          go_roundw
                          case rel => exact ⟨j' + 1, by omega, rfl, by go_num, hide (drewN_of hbi.out _)⟩
                          case measure => simp [intOf]; omega
                        · go_wp2_with fail
                          go_roundw
                          case rel => exact ⟨k + 1, by omega, rfl, by go_num, hide hbw⟩
                          case measure => simp [intOf]; omega
                    · have hkn : k = EV.length := by omega
                      clear hkn
                      go_wp2_with fail
                      go_loopw [3, 18, 19, 20] (fun ok i _ _ wr => ∃ k : Nat, k ≤ EC.length ∧ ok = .bool true ∧ i = .int .i64 k ∧ Hid (Below w.heap.size w wr)) (fun _ i _ _ _ => EC.length - (intOf i).toNat)
                      case atStart => exact ⟨0, Nat.zero_le _, rfl, rfl, hbV⟩
                      case round =>
                        obtain ⟨k, hk, rfl, rfl, hbC⟩ := hrel
                        obtain ⟨wo, rfl⟩ : ∃ wo, wo = wr := ⟨_, rfl⟩
                        have cf := (hbC.out.cell (p := ⟨bb, bo + 5, none⟩) (by show bb < _; exact lbb)).trans cC
                        by_cases hlt : k < EC.length
                        · obtain ⟨rb, rfl, hrb, lo, m, lc, hrc, hm, hcell⟩ := HC.out.get (by omega) hlt
                          have rc := (hbC.out.cell (p := ⟨rb, k, none⟩) hrb).trans hrc
                          have HC := hide hcell
                          have i1 : (0 : Int) ≤ (k : Int) := by omega
                          have i2 : (k : Int) < (EC.length : Int) := by omega
                          have HSz := hide hbC.out.size
                          clear hcell hrc
                          go_wp2_with fail
                          generalize hwx : wo.alloc (.cells #[.int .i64 (-1000 - (k : Int) / 4), .int .i64 0] 77) = wx
                          have hbx : Below wo.heap.size wo wx := by rw [← hwx]; exact (Below.refl _ _).alloc (Nat.le_refl _) _
                          have hsx : wo.heap.size < wx.heap.size := by rw [← hwx]; simp
                          have b0 : wx.cell? ⟨wo.heap.size, 0, none⟩ = some (.int .i64 (-1000 - (k : Int) / 4)) := by rw [← hwx]; simp [go_sem]
                          have b1 : wx.cell? ⟨wo.heap.size, 1, none⟩ = some (.int .i64 0) := by rw [← hwx]; simp [go_sem]
                          have HBx := hide (hbC.out.trans (hbx.mono HSz.out))
                          clear hwx hbx
                          go_loopw [3, 20] (fun ok j wi => ∃ j' : Nat, j' ≤ m ∧ ok = .bool true ∧ j = .int .i64 j' ∧ Hid (Below wx.heap.size wx wi)) (fun _ j _ => m - (intOf j).toNat)
                          case atStart => exact ⟨0, Nat.zero_le _, rfl, rfl, hide (Below.refl _ _)⟩
                          case round =>
                            obtain ⟨j', hj', rfl, rfl, hbi⟩ := hrel
                            have hbw := HBx.out.trans (hbi.out.mono HBx.out.size)
                            have cg := (hbw.cell (p := ⟨bb, bo + 5, none⟩) (by show bb < _; exact lbb)).trans cC
                            have rg := (hbi.out.cell (p := ⟨rb, k, none⟩) (by show rb < _; have := HBx.out.size; omega)).trans ((HBx.out.cell (p := ⟨rb, k, none⟩) hrb).trans ((hbC.out.cell (p := ⟨rb, k, none⟩) hrb).symm.trans rc))
                            by_cases hjt : j' < m
                            · obtain ⟨lb, rfl, hlb, hx⟩ := HC.out j' hjt
                              have x0 : wr.cell? ⟨lb, j' * 2, none⟩ = some (.int .i64 (-1000 - (k : Int) / 4)) := (hbw.cell (p := ⟨lb, _, none⟩) hlb).trans (hx 0 (by omega))
                              have x1 : wr.cell? ⟨lb, j' * 2 + 1, none⟩ = some (.int .i64 0) := (hbw.cell (p := ⟨lb, _, none⟩) hlb).trans (hx 1 (by omega))
                              have d0 := (hbi.out.cell (p := ⟨wo.heap.size, 0, none⟩) hsx).trans b0
                              have d1 := (hbi.out.cell (p := ⟨wo.heap.size, 1, none⟩) hsx).trans b1
                              have j1 : (0 : Int) ≤ (j' : Int) := by omega
                              have j2 : (j' : Int) < (m : Int) := by omega
                              clear hx hbw
                              go_wp2_with fail
                              go_big_quiet (fail)
                              go_wp2_with fail
                              go_roundw
                              case rel => exact ⟨j' + 1, by omega, rfl, by go_num, hide (drewN_of hbi.out _)⟩
                              case measure => simp [intOf]; omega
                            · go_wp2_with fail
                              go_roundw
                              case rel => exact ⟨k + 1, by omega, rfl, by go_num, hide hbw⟩
                              case measure => simp [intOf]; omega
                        · have hkn : k = EC.length := by omega
                          clear hkn
                          go_wp2_with fail
                          go_ret
                          exact ⟨rfl, hbC.out⟩
end Go.Proofs.YtobgcaemnpkbmaaGreat
