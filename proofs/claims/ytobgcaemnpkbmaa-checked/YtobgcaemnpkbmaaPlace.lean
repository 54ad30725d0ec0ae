/-
  What 'placeFits' answers of a node of a list.
-/
import Derived.Test.YtobgcaemnpkbmaaElem
namespace Go.Proofs.Ytobgcaemnpkbmaa
open Go.RowKit

/-- A node lies at a place of a block. -/
structure NodAt (w : World) (b p : Nat) (n : Nod) : Prop where
  c0 : w.cell? ⟨b, p, none⟩ = some (.int .i64 n.d)
  c1 : w.cell? ⟨b, p + 1, none⟩ = some (.string n.t)
  c2 : w.cell? ⟨b, p + 2, none⟩ = some (.int .i64 n.k)
  c3 : w.cell? ⟨b, p + 3, none⟩ = some (.slice n.ao n.an n.ac)
  c4 : w.cell? ⟨b, p + 4, none⟩ = some (.string n.x)
  ok : n.Ok w

/-- n nodes lie at an address. -/
structure NodesAt (w : World) (b o n : Nat) (L : Nat → Nod) : Prop where
  lt : b < w.heap.size
  node : ∀ i, i < n → NodAt w b (o + i * 5) (L i)

theorem NodAt.below {w w' : World} {b p : Nat} {n : Nod} (h : NodAt w b p n) (hw : b < w.heap.size) (hb : Below w.heap.size w w') : NodAt w' b p n :=
  ⟨(hb.cell (p := ⟨b, _, none⟩) hw).trans h.c0, (hb.cell (p := ⟨b, _, none⟩) hw).trans h.c1, (hb.cell (p := ⟨b, _, none⟩) hw).trans h.c2, (hb.cell (p := ⟨b, _, none⟩) hw).trans h.c3, (hb.cell (p := ⟨b, _, none⟩) hw).trans h.c4, h.ok.below hb⟩
theorem NodesAt.below {w w' : World} {b o n : Nat} {L : Nat → Nod} (h : NodesAt w b o n L) (hb : Below w.heap.size w w') : NodesAt w' b o n L :=
  ⟨Nat.lt_of_lt_of_le h.lt hb.size, fun i hi => (h.node i hi).below h.lt hb⟩

/-- The way back from node i to its parent, m nodes still ahead. -/
def goBack (L : Nat → Nod) (i : Nat) : Nat → Bool
  | 0 => false
  | j + 1 => if (L j).d < (L i).d then !(L j).t.toList.isEmpty else if (L i).k ≠ 0 ∧ (L j).d = (L i).d ∧ (L j).k = (L i).k then false else goBack L i j
theorem goBack_up {L : Nat → Nod} {i j : Nat} (h : (L j).d < (L i).d) : goBack L i (j + 1) = !(L j).t.toList.isEmpty := by
  rw [goBack, if_pos h]
theorem goBack_same {L : Nat → Nod} {i j : Nat} (h : ¬ (L j).d < (L i).d) (h1 : (L i).k ≠ 0) (h2 : (L j).d = (L i).d) (h3 : (L j).k = (L i).k) : goBack L i (j + 1) = false := by
  rw [goBack, if_neg h, if_pos ⟨h1, h2, h3⟩]
theorem goBack_on {L : Nat → Nod} {i j : Nat} (h : ¬ (L j).d < (L i).d) (h1 : ¬ ((L i).k ≠ 0 ∧ (L j).d = (L i).d ∧ (L j).k = (L i).k)) : goBack L i (j + 1) = goBack L i j := by
  rw [goBack, if_neg h, if_neg h1]

set_option maxHeartbeats 400000 in
theorem placeFits_any (b o n c : Nat) (L : Nat → Nod) (i : Nat) (w : World) (hn : n ≤ maxLen) (hi : i < n) (h : NodesAt w b o n L) :
    Calls Try.prog 45 #[.slice (some ⟨b, o, none⟩) n c, .int .i64 i] w fun e w' => e = .returned (.bool (goBack L i i)) ∧ Below w.heap.size w w' := by
  unfold maxLen at hn
  have H := hide h
  have hb := h.lt
  obtain ⟨c0, c1, c2, c3, c4, _⟩ := h.node i hi
  clear h
  go_enter Try.func45, Try.ntmps45
  go_wp2
  go_loopw [6] (fun j wr => ∃ m q : Nat, m ≤ i ∧ j = .int .i64 ((m : Int) - 1) ∧ Hid (goBack L i m = goBack L i i) ∧ wr = (w.alloc (.cells #[.int .i64 (L i).d, .string (L i).t, .int .i64 (L i).k, .slice (L i).ao (L i).an (L i).ac, .string (L i).x] 28)).drewN q) (fun j _ => (intOf j + 1).toNat)
  case atStart => exact ⟨i, 0, Nat.le_refl _, rfl, rfl, rfl⟩
  case round =>
    obtain ⟨m, q, hm, rfl, hg, rfl⟩ := hrel
    cases m with
    | zero =>
      go_wp2
      go_ret
      exact ⟨ret_bool hg.out, drewN_of ((Below.refl _ _).alloc (Nat.le_refl _) _) _⟩
    | succ p =>
      have e : (((p + 1 : Nat) : Int) - 1) = p := by omega
      rw [e]
      clear e
      obtain ⟨d0, d1, d2, _, _, _⟩ := H.out.node p (by omega)
      have hbn : b ≠ w.heap.size := by omega
      have fin : ∀ q, Below w.heap.size w ((w.alloc (.cells #[.int .i64 (L i).d, .string (L i).t, .int .i64 (L i).k, .slice (L i).ao (L i).an (L i).ac, .string (L i).x] 28)).drewN q) := fun q => drewN_of ((Below.refl _ _).alloc (Nat.le_refl _) _) _
      by_cases hlt : (L p).d < (L i).d
      · have HX := hide (hg.out.symm.trans (goBack_up hlt))
        clear hg
        go_wp2
        go_big_quiet (fail)
        go_wp2
        go_ret
        exact ⟨ret_bool HX.out.symm, fin _⟩
      · have hge : (L i).d ≤ (L p).d := by omega
        by_cases hk : (L i).k = 0
        · have HX := hide ((goBack_on hlt (by intro h; exact h.1 hk)).symm.trans hg.out)
          have kb : ((L i).k != 0) = false := by simp [hk]
          clear hg hk hlt
          go_wp2
          go_big_quiet (fail)
          go_wp2
          go_big_quiet (fail)
          go_wp2
          go_roundw
          case rel => exact ⟨p, _, by omega, by go_num, HX, rfl⟩
          case measure => simp [intOf]
        · have kb : ((L i).k != 0) = true := by simp [hk]
          by_cases hd : (L p).d = (L i).d
          · have db : ((L p).d == (L i).d) = true := by simp [hd]
            by_cases hkk : (L p).k = (L i).k
            · have HX := hide (hg.out.symm.trans (goBack_same hlt hk hd hkk))
              have kk : ((L p).k == (L i).k) = true := by simp [hkk]
              clear hg hk hlt hd hkk
              go_wp2
              go_big_quiet (fail)
              go_wp2
              go_big_quiet (fail)
              go_wp2
              go_ret
              exact ⟨ret_bool HX.out.symm, drewN_of (drewN_of (fin _) _) _⟩
            · have HX := hide ((goBack_on hlt (by intro h; exact hkk h.2.2)).symm.trans hg.out)
              have kk : ((L p).k == (L i).k) = false := by simp [hkk]
              clear hg hk hlt hd hkk
              go_wp2
              go_big_quiet (fail)
              go_wp2
              go_big_quiet (fail)
              go_wp2
              go_roundw
              case rel => exact ⟨p, _, by omega, by go_num, HX, rfl⟩
              case measure => simp [intOf]
          · have HX := hide ((goBack_on hlt (by intro h; exact hd h.2.1)).symm.trans hg.out)
            have db : ((L p).d == (L i).d) = false := by simp [hd]
            clear hg hk hlt hd
            go_wp2
            go_big_quiet (fail)
            go_wp2
            go_big_quiet (fail)
            go_wp2
            go_roundw
            case rel => exact ⟨p, _, by omega, by go_num, HX, rfl⟩
            case measure => simp [intOf]

end Go.Proofs.Ytobgcaemnpkbmaa
