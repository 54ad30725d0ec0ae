/- Hc -/
import Derived.Test.YtobgcaemnpkbmaaKb38
namespace Go.Proofs.Ytobgcaemnpkbmaa
open Go.RowKit
def knA (i : Nat) : Nod := if i = 0 then ⟨0, ⟨#[100, 105, 118]⟩, 0, none, 0, 0, ⟨#[]⟩, fun _ => ⟨#[]⟩, fun _ => ⟨#[]⟩⟩ else ⟨1, ⟨#[112]⟩, i, none, 0, 0, ⟨#[]⟩, fun _ => ⟨#[]⟩, fun _ => ⟨#[]⟩⟩
def knB (i : Nat) : Nod := if i = 0 then ⟨0, ⟨#[100, 105, 118]⟩, 0, none, 0, 0, ⟨#[]⟩, fun _ => ⟨#[]⟩, fun _ => ⟨#[]⟩⟩ else ⟨1, ⟨#[112]⟩, 3 - i, none, 0, 0, ⟨#[]⟩, fun _ => ⟨#[]⟩, fun _ => ⟨#[]⟩⟩
def knCells (a b : Int) : Array Value := #[.int .i64 0, .string ⟨#[100, 105, 118]⟩, .int .i64 0, .slice none 0 0, .string ⟨#[]⟩, .int .i64 1, .string ⟨#[112]⟩, .int .i64 a, .slice none 0 0, .string ⟨#[]⟩, .int .i64 1, .string ⟨#[112]⟩, .int .i64 b, .slice none 0 0, .string ⟨#[]⟩]
theorem knA_list (w : World) (t : TypeId) : ListAt (w.alloc (.cells (knCells 1 2) t)) (some ⟨w.heap.size, 0, none⟩) 3 knA := by
  intro _
  refine ⟨w.heap.size, 0, rfl, by simp, fun i hi => ?_⟩
  have small : ∀ n : Nat, n ≤ 8 → n ≤ maxLen := fun n h => by unfold maxLen; omega
  match i, hi with
  | 0, _ => exact ⟨by simp [go_sem, knA, knCells], by simp [go_sem, knA, knCells], by simp [go_sem, knA, knCells], by simp [go_sem, knA, knCells], by simp [go_sem, knA, knCells], ⟨by simp [knA], small _ (by decide), small _ (by decide), fun j hj => absurd hj (by simp [knA])⟩⟩
  | 1, _ => exact ⟨by simp [go_sem, knA, knCells], by simp [go_sem, knA, knCells], by simp [go_sem, knA, knCells], by simp [go_sem, knA, knCells], by simp [go_sem, knA, knCells], ⟨by simp [knA], small _ (by decide), small _ (by decide), fun j hj => absurd hj (by simp [knA])⟩⟩
  | 2, _ => exact ⟨by simp [go_sem, knA, knCells], by simp [go_sem, knA, knCells], by simp [go_sem, knA, knCells], by simp [go_sem, knA, knCells], by simp [go_sem, knA, knCells], ⟨by simp [knA], small _ (by decide), small _ (by decide), fun j hj => absurd hj (by simp [knA])⟩⟩
theorem knB_list (w : World) (t : TypeId) : ListAt (w.alloc (.cells (knCells 2 1) t)) (some ⟨w.heap.size, 0, none⟩) 3 knB := by
  intro _
  refine ⟨w.heap.size, 0, rfl, by simp, fun i hi => ?_⟩
  have small : ∀ n : Nat, n ≤ 8 → n ≤ maxLen := fun n h => by unfold maxLen; omega
  match i, hi with
  | 0, _ => exact ⟨by simp [go_sem, knB, knCells], by simp [go_sem, knB, knCells], by simp [go_sem, knB, knCells], by simp [go_sem, knB, knCells], by simp [go_sem, knB, knCells], ⟨by simp [knB], small _ (by decide), small _ (by decide), fun j hj => absurd hj (by simp [knB])⟩⟩
  | 1, _ => exact ⟨by simp [go_sem, knB, knCells], by simp [go_sem, knB, knCells], by simp [go_sem, knB, knCells], by simp [go_sem, knB, knCells], by simp [go_sem, knB, knCells], ⟨by simp [knB], small _ (by decide), small _ (by decide), fun j hj => absurd hj (by simp [knB])⟩⟩
  | 2, _ => exact ⟨by simp [go_sem, knB, knCells], by simp [go_sem, knB, knCells], by simp [go_sem, knB, knCells], by simp [go_sem, knB, knCells], by simp [go_sem, knB, knCells], ⟨by simp [knB], small _ (by decide), small _ (by decide), fun j hj => absurd hj (by simp [knB])⟩⟩
theorem knA_out : (checkOut (mayB knA) 3).1 = 0 := by decide +kernel
theorem kn_diffE : diffE (madeR knA 3) knB 3 = (0, 0) := by decide +kernel
def knP : Pat := ⟨2, 3, 1, 2, 0, ⟨#[]⟩, ⟨#[]⟩, ⟨#[]⟩⟩
theorem kn_diffP : diffP (madeR knA 3) 3 knB 3 = [knP] := by kernel_rfl
def knR : List RN := [rnOf knA 0, rnOf knA 2, rnOf knA 1]
theorem kn_did : didP (madeR knA 3) knP = knR := by kernel_rfl
theorem kn_wid : widP knR 3 0 = [1, 3, 2] := by kernel_rfl
theorem kn_walk : walkP knR 3 0 0 = [(0, 0), (1, 1), (2, 1)] := by kernel_rfl
theorem kn_can : canP (madeR knA 3) 3 knP = true := by
  have hW : ¬ WithinP (madeR knA 3) 1 3 := by
    rintro ⟨m, e⟩
    have h1 : upP (madeR knA 3) 1 = 0 := by kernel_rfl
    cases m with
    | zero => cases e
    | succ m => rw [upN, h1, upN_zero] at e; cases e
  unfold canP
  rw [if_neg (by decide), if_pos (by decide)]
  unfold insB
  have hd : ∀ i : Decidable (WithinP (madeR knA 3) knP.par knP.id), @decide _ i = false := fun i => decide_eq_false hW
  rw [hd]
  decide +kernel
def patZ : Pat := ⟨0, 0, 0, 0, 0, ⟨#[]⟩, ⟨#[]⟩, ⟨#[]⟩⟩
def patAt (P : List Pat) (i : Nat) : Pat := P.getD i patZ
theorem patsL_get (P : List Pat) : ∀ j, j < P.length * 8 → (patsL P)[j]? = some (patsCell (patAt P) j) := by
  induction P with
  | nil => intro j hj; simp at hj
  | cons x P ih =>
    intro j hj
    have e : patsL (x :: P) = x.cells ++ patsL P := by unfold patsL; rw [List.flatMap_cons]
    rw [e]
    by_cases h8 : j < 8
    · rw [List.getElem?_append_left (by show j < 8; exact h8)]
      match j, h8 with
      | 0, _ => rfl
      | 1, _ => rfl
      | 2, _ => rfl
      | 3, _ => rfl
      | 4, _ => rfl
      | 5, _ => rfl
      | 6, _ => rfl
      | 7, _ => rfl
    · rw [List.getElem?_append_right (by show 8 ≤ j; omega)]
      have e2 : j - x.cells.length = j - 8 := rfl
      rw [e2, ih (j - 8) (by simp at hj; omega)]
      unfold patsCell
      have e3 : j / 8 = (j - 8) / 8 + 1 := by omega
      have e4 : (j - 8) % 8 = j % 8 := by omega
      rw [e3, e4]
      rfl
theorem pats_row {w : World} {B : Nat} {ao : Option Addr} {n c : Nat} {P : List Pat} (h : w.ownsRow B 43 8 (.slice ao n c) n (patsL P)) (hn : n = P.length) : PListAt w ao n (patAt P) := fun h0 => by
  rcases h.2 with ⟨e, e0⟩ | ⟨g, cap, cur, e, hb, hg, _⟩
  · omega
  · simp at e
    obtain ⟨rfl, rfl⟩ := e
    refine ⟨g, 0, rfl, (Array.getElem?_eq_some_iff.1 hg).1, fun j hj => ?_⟩
    rw [Nat.zero_add, h.cellAt j hj, patsL_get P j (by omega)]
end Go.Proofs.Ytobgcaemnpkbmaa
