/- Hb Hc Hd He -/
import Derived.Test.YtobgcaemnpkbmaaMd36
import Derived.Test.YtobgcaemnpkbmaaMd42
import Derived.Test.YtobgcaemnpkbmaaMd26
namespace Go.Proofs.Ytobgcaemnpkbmaa
open Go.RowKit
theorem tellOf_getK (N : List TN) (i r : Nat) (hi : i < N.length) (hr : r < 5) : (tellOf N)[i * 5 + r]? = (N[i]).cells[r]? := by
  induction N generalizing i with
  | nil => exact absurd hi (Nat.not_lt_zero _)
  | cons a N ih =>
    have e : tellOf (a :: N) = a.cells ++ tellOf N := by unfold tellOf; rw [List.flatMap_cons]
    rw [e]
    cases i with
    | zero => rw [List.getElem?_append_left (by show 0 * 5 + r < 5; omega)]; simp
    | succ i =>
      rw [List.getElem?_append_right (by show 5 ≤ _; omega)]
      have e2 : (i + 1) * 5 + r - a.cells.length = i * 5 + r := by show _ - 5 = _; omega
      rw [e2, ih i (by simpa using hi)]
      rfl
def TN.nodK (n : TN) : Nod := ⟨n.d, n.tag, n.key, n.ao, n.an, n.ac, n.text, nmOf n.ats, vlOf n.ats⟩
def TN.zeroK : TN := ⟨0, ⟨#[]⟩, 0, ⟨#[]⟩, [], none, 0, 0⟩
def nodsK (N : List TN) (i : Nat) : Nod := (N.getD i TN.zeroK).nodK
theorem nodsK_lt {N : List TN} {i : Nat} (h : i < N.length) : nodsK N i = N[i].nodK := by
  unfold nodsK
  rw [List.getD_eq_getElem?_getD, List.getElem?_eq_getElem h]
  rfl
theorem TellAt.listK {B : Nat} {w : World} {ao : Option Addr} {n c : Nat} {N : List TN} (h : TellAt B w (.slice ao n c) N) (hn : n = N.length) (hl : N.length ≤ 1000000) (hfew : ∀ x, x ∈ N → x.ats.length ≤ 5) : ListAt w ao n (nodsK N) := by
  subst hn
  intro h0
  rcases h.row.2 with ⟨e, _⟩ | ⟨g, cap, cur, e, _, hg, _⟩
  · simp at e; omega
  · simp at e
    obtain ⟨rfl, rfl⟩ := e
    have hgl : g < w.heap.size := (Array.getElem?_eq_some_iff.1 hg).1
    refine ⟨g, 0, rfl, hgl, fun i hi => ?_⟩
    have hx := h.node _ (List.getElem_mem hi)
    have hf := hfew _ (List.getElem_mem hi)
    have cell : ∀ r, r < 5 → w.cell? ⟨g, 0 + i * 5 + r, none⟩ = N[i].cells[r]? := fun r hr => by
      rw [Nat.zero_add, h.row.cellAt (i * 5 + r) (by omega), tellOf_getK N i r hi hr]
    rw [nodsK_lt hi]
    refine ⟨cell 0 (by omega), cell 1 (by omega), cell 2 (by omega), cell 3 (by omega), cell 4 (by omega), ⟨?_, hx.tag, hx.text, attrs_of_row hx.row hx.an hx.size⟩⟩
    show N[i].an ≤ maxLen
    rw [hx.an]; unfold maxLen; omega
theorem tellK_few {R : List RN} {W : List (Nat × Int)} {N : List TN} (h : TellL R W N) (hR : ∀ n, n ∈ R → n.ats.length ≤ 5) : ∀ x, x ∈ N → x.ats.length ≤ 5 := fun x hx => by
  obtain ⟨i, hi, rfl⟩ := List.getElem_of_mem hx
  obtain ⟨hl, _, _, _, _, e⟩ := h.2 i (by rw [← h.1]; exact hi) hi
  rw [e]
  exact hR _ (List.getElem_mem hl)
theorem root_at {R : List RN} {last : Int} (h : DocOk R last) : ∃ r, ∃ hr : r < R.length, R[r].id = 1 ∧ atP R 1 = (r : Int) := by
  obtain ⟨n, hn, h1, _⟩ := h.root
  rcases at_two h.ids 1 with e | ⟨e, _⟩
  · exact e
  · exact absurd h1 (e n hn)
theorem walkK_few {R : List RN} {last : Int} (h : DocOk R last) {r : Nat} (hr : r < R.length) (d : Int) : (walkP R R.length r d).length ≤ R.length := by
  obtain ⟨rk, hU⟩ := h.up
  exact walk_length hU h.ids (fitP_all hU hr)
structure DomAt (ρ : Roles) (nb : Int → Nat) (mb q db : Nat) (w : World) (R : List RN) (last : Int) : Prop where
  blk : w.heap[db]? = some (.cells #[.pointer (some ⟨q, 0, none⟩)] 65 (0, 0))
  out : ρ db = none
  dom : Dom ρ nb mb (some (nb 1)) w q R last
  ok : DocOk R last
  fine : Fine R
def Apart (ρ ρ2 : Roles) : Prop := ∀ b, (ρ b).isSome = true → ρ2 b = none
theorem DomAt.below {ρ : Roles} {nb : Int → Nat} {mb q db : Nat} {w w' : World} {R : List RN} {last : Int} (h : DomAt ρ nb mb q db w R last) (hb : Below w.heap.size w w') : DomAt ρ nb mb q db w' R last :=
  ⟨(hb.block db (lt_of_blk h.blk)).trans h.blk, h.out, h.dom.below hb, h.ok, h.fine⟩
theorem DomAt.other {ρ ρ2 ρ3 : Roles} {nb : Int → Nat} {mb q db : Nat} {w w' : World} {R : List RN} {last : Int} (h : DomAt ρ nb mb q db w R last) (ha : Apart ρ ρ2) (hd : ρ2 db = none) (hw : Wrote ρ2 ρ3 w w') : DomAt ρ nb mb q db w' R last ∧ Apart ρ ρ3 ∧ ρ3 db = none := by
  have h3 : ∀ b, b < w.heap.size → ρ2 b = none → ρ3 b = none := fun b hb e => by
    cases e3 : ρ3 b with
    | none => rfl
    | some v =>
      rcases hw.2.2 b (by rw [e3]; rfl) with e4 | e4
      · rw [e] at e4; cases e4
      · omega
  refine ⟨⟨(hw.1.block db (lt_of_blk h.blk) (by rw [hd]; simp)).trans h.blk, h.out, h.dom.touch hw.1 fun b e => by rw [ha b e]; simp, h.ok, h.fine⟩, fun b e => h3 b (h.dom.low b e) (ha b e), h3 db (lt_of_blk h.blk) hd⟩
theorem dnew_ok (b o n c : Nat) (L : Nat → Nod) (w : World) (hn : n ≤ maxLen) (H : ListAt w (some ⟨b, o, none⟩) n L) (hz : (checkOut (mayB L) n).1 = 0) :
    Calls Try.prog 14 #[.slice (some ⟨b, o, none⟩) n c] w fun e w' => ∃ ρ nb mb q db, e = .returned (.tuple #[.pointer (some ⟨db, 0, none⟩), .int .i64 0, .int .i64 0]) ∧ w.heap.size ≤ db ∧ (∀ b, (ρ b).isSome = true → w.heap.size ≤ b) ∧ DomAt ρ nb mb q db w' (madeR L n) n ∧ Below w.heap.size w w' := by
  obtain ⟨e0, hn0, hn4, hmay⟩ := check_none hz
  have HC := treeCheck_any (some ⟨b, o, none⟩) n c L w hn H
  rw [e0] at HC
  obtain ⟨b', o', e, hN⟩ := H hn0
  cases e
  have hP := pnew_ok b o n c L w hn0 hn4 hN (NewOk.of hn0 hmay) (hide HC)
  refine (wrap_new (some ⟨b, o, none⟩) n c w (fun q w' => ∃ ρ nb mb, w.heap.size ≤ q ∧ (∀ b, (ρ b).isSome = true → w.heap.size ≤ b) ∧ Dom ρ nb mb (some (nb 1)) w' q (madeR L n) n ∧ Below w.heap.size w w') (hide (hP.mono ?_))).mono ?_
  · rintro e w' ⟨ρ, nb, mb, q, rfl, h1, h2, h3, h4⟩
    exact ⟨q, rfl, ρ, nb, mb, h1, h2, h3, h4⟩
  · rintro e w5 ⟨q, w4, ⟨ρ, nb, mb, h1, h2, h3, h4⟩, rfl, rfl⟩
    refine ⟨ρ, nb, mb, q, w4.heap.size, rfl, h4.size, h2, ⟨by show (w4.heap.push _)[w4.heap.size]? = _; simp, ?_, h3.below ((Below.refl _ _).alloc (Nat.le_refl _) _), made_ok hn0 hmay, made_fine hmay⟩, h4.alloc h4.size _⟩
    cases e : ρ w4.heap.size with
    | none => rfl
    | some v => have := h3.low w4.heap.size (by rw [e]; rfl); omega
theorem dapply (ρ : Roles) (nb : Int → Nat) (mb q db : Nat) (w : World) (R : List RN) (last : Int) (h : DomAt ρ nb mb q db w R last) (ao : Option Addr) (n c : Nat) (X : Nat → Pat) (hl : last + n ≤ 4611686018427387904) (hn : n ≤ 2199023255552) (hX : PListAt w ao n X) (hfree : 0 < n → ∀ a, ao = some a → ρ a.block = none) (hx : ∀ i, i < n → (X i).Ok ∧ (X i).Ints) :
    Calls Try.prog 15 #[.pointer (some ⟨db, 0, none⟩), .slice ao n c] w fun e w' => ∃ x y, e = .returned (.tuple #[.int .i64 x, .int .i64 y]) ∧ ∃ k, k ≤ n ∧ RunsTo R last X k ∧ (∃ nb' ρ', Wrote ρ ρ' w w' ∧ DomAt ρ' nb' mb q db w' (runP R last X k).1 (runP R last X k).2) ∧ ((k = n ∧ x = 0 ∧ y = 0) ∨ (k < n ∧ canP (runP R last X k).1 (runP R last X k).2 (X k) = false ∧ x = 4 ∧ y = k)) := by
  refine wrap_apply db q w ao n c _ (cell_of_blk h.blk 0 _ rfl) (hide ((apply_big ρ nb mb w q R last h.dom h.ok h.fine ao n c X hl hn hX hfree hx).mono ?_))
  rintro e w' ⟨k, hk, hr, ⟨nb', ρ', hw, hd⟩, hout⟩
  obtain ⟨o1, o2, _⟩ := hr.ok h.ok h.fine
  have hdb : ρ' db = none := by
    cases e3 : ρ' db with
    | none => rfl
    | some v =>
      rcases hw.2.2 db (by rw [e3]; rfl) with e4 | e4
      · rw [h.out] at e4; cases e4
      · have := lt_of_blk h.blk; omega
  have hD : DomAt ρ' nb' mb q db w' (runP R last X k).1 (runP R last X k).2 := ⟨(hw.1.block db (lt_of_blk h.blk) (by rw [h.out]; simp)).trans h.blk, hdb, hd, o1, o2⟩
  rcases hout with ⟨h1, h2⟩ | ⟨h1, h2, h3⟩
  · exact ⟨0, 0, h2, k, hk, hr, ⟨nb', ρ', hw, hD⟩, .inl ⟨h1, rfl, rfl⟩⟩
  · exact ⟨4, k, h3, k, hk, hr, ⟨nb', ρ', hw, hD⟩, .inr ⟨h1, h2, rfl, rfl⟩⟩
theorem dtree (ρ : Roles) (nb : Int → Nat) (mb q db : Nat) (w : World) (R : List RN) (last : Int) (h : DomAt ρ nb mb q db w R last) (r : Nat) (hr : r < R.length) (hr1 : R[r].id = 1) :
    Calls Try.prog 18 #[.pointer (some ⟨db, 0, none⟩)] w fun e w' => ∃ v, e = .returned v ∧ ∃ N, TellAt w.heap.size w' v N ∧ TellL R (walkP R R.length r 0) N ∧ Below w.heap.size w w' :=
  wrap_tree db q w _ (cell_of_blk h.blk 0 _ rfl) (hide ((ptree_any ρ nb mb w q R last h.dom h.ok r hr hr1).mono fun _ _ ⟨v, N, h1, h2, h3, h4⟩ => ⟨v, h1, N, h2, h3, h4⟩))
theorem dids (ρ : Roles) (nb : Int → Nat) (mb q db : Nat) (w : World) (R : List RN) (last : Int) (h : DomAt ρ nb mb q db w R last) (r : Nat) (hr : r < R.length) (hr1 : R[r].id = 1) :
    Calls Try.prog 16 #[.pointer (some ⟨db, 0, none⟩)] w fun e w' => ∃ v, e = .returned v ∧ w'.ownsRow w.heap.size 3 1 v (widP R R.length r).length (ints (widP R R.length r)) ∧ Below w.heap.size w w' :=
  wrap_ids db q w _ (cell_of_blk h.blk 0 _ rfl) (hide (pids_any ρ nb mb w q R last h.dom h.ok r hr hr1))
theorem ddiff (ρ : Roles) (nb : Int → Nat) (mb q db : Nat) (w : World) (R : List RN) (last : Int) (h : DomAt ρ nb mb q db w R last) (hK : Keys R) (hl1 : last + 400 ≤ 4611686018427387904) (ao : Option Addr) (n c : Nat) (L : Nat → Nod) (hn : n ≤ maxLen) (hc : n ≤ c) (hL : ListAt w ao n L) (hk : ∀ i, i < n → I64 (L i).k) :
    Calls Try.prog 20 #[.pointer (some ⟨db, 0, none⟩), .slice ao n c] w fun e w' => ∃ v x y, e = .returned (.tuple #[v, .int .i64 x, .int .i64 y]) ∧ x = (diffE R L n).1 ∧ y = (diffE R L n).2 ∧ w'.ownsRow w.heap.size 43 8 v (if (diffE R L n).1 = 0 then diffP R last L n else []).length (patsL (if (diffE R L n).1 = 0 then diffP R last L n else [])) ∧ Below w.heap.size w w' :=
  wrap_diff db q w ao n c _ (cell_of_blk h.blk 0 _ rfl) (hide ((pdiff_any ρ nb mb w q R last h.dom h.ok h.fine hK hl1 ao n c L hn hc hL hk).mono fun _ _ ⟨v, h1, h2, h3⟩ => ⟨v, _, _, h1, rfl, rfl, h2, h3⟩))
end Go.Proofs.Ytobgcaemnpkbmaa
namespace Go.Proofs.Ytobgcaemnpkbmaa
open Go.RowKit
def knA (i : Nat) : Nod := if i = 0 then ⟨0, ⟨#[100, 105, 118]⟩, 0, none, 0, 0, ⟨#[]⟩, fun _ => ⟨#[]⟩, fun _ => ⟨#[]⟩⟩ else ⟨1, ⟨#[112]⟩, i, none, 0, 0, ⟨#[]⟩, fun _ => ⟨#[]⟩, fun _ => ⟨#[]⟩⟩
def knB (i : Nat) : Nod := if i = 0 then ⟨0, ⟨#[100, 105, 118]⟩, 0, none, 0, 0, ⟨#[]⟩, fun _ => ⟨#[]⟩, fun _ => ⟨#[]⟩⟩ else ⟨1, ⟨#[112]⟩, 3 - i, none, 0, 0, ⟨#[]⟩, fun _ => ⟨#[]⟩, fun _ => ⟨#[]⟩⟩
def knCells (a b : Int) : Array Value := #[.int .i64 0, .string ⟨#[100, 105, 118]⟩, .int .i64 0, .slice none 0 0, .string ⟨#[]⟩, .int .i64 1, .string ⟨#[112]⟩, .int .i64 a, .slice none 0 0, .string ⟨#[]⟩, .int .i64 1, .string ⟨#[112]⟩, .int .i64 b, .slice none 0 0, .string ⟨#[]⟩]
theorem knA_list (w : World) (t : TypeId) : ListAt (w.alloc (.cells (knCells 1 2) t)) (some ⟨w.heap.size, 0, none⟩) 3 knA := by
  intro _
  refine ⟨w.heap.size, 0, rfl, by simp, fun i hi => ?_⟩
  have small : ∀ n : Nat, n ≤ 8 → n ≤ maxLen := fun n h => by unfold maxLen; omega
  match i, hi with
  | 0, _ => exact ⟨by simp [go_sem, knA, knCells], by simp [go_sem, knA, knCells], by simp [go_sem, knA, knCells], by simp [go_sem, knA, knCells], by simp [go_sem, knA, knCells], ⟨by simp [knA], small _ (by decide), small _ (by decide), fun j hj => absurd hj (by simp [knA])⟩⟩
  | 1, _ => exact ⟨by simp [go_sem, knA, knCells], by simp [go_sem, knA, knCells], by simp [go_sem, knA, knCells], by simp [go_sem, knA, knCells], by simp [go_sem, knA, knCells], ⟨by simp [knA], small _ (by decide), small _ (by decide), fun j hj => absurd hj (by simp [knA])⟩⟩
  | 2, _ => exact ⟨by simp [go_sem, knA, knCells], by simp [go_sem, knA, knCells], by simp [go_sem, knA, knCells], by simp [go_sem, knA, knCells], by simp [go_sem, knA, knCells], ⟨by simp [knA], small _ (by decide), small _ (by decide), fun j hj => absurd hj (by simp [knA])⟩⟩
theorem knB_list (w : World) (t : TypeId) : ListAt (w.alloc (.cells (knCells 2 1) t)) (some ⟨w.heap.size, 0, none⟩) 3 knB := by
  intro _
  refine ⟨w.heap.size, 0, rfl, by simp, fun i hi => ?_⟩
  have small : ∀ n : Nat, n ≤ 8 → n ≤ maxLen := fun n h => by unfold maxLen; omega
  match i, hi with
  | 0, _ => exact ⟨by simp [go_sem, knB, knCells], by simp [go_sem, knB, knCells], by simp [go_sem, knB, knCells], by simp [go_sem, knB, knCells], by simp [go_sem, knB, knCells], ⟨by simp [knB], small _ (by decide), small _ (by decide), fun j hj => absurd hj (by simp [knB])⟩⟩
  | 1, _ => exact ⟨by simp [go_sem, knB, knCells], by simp [go_sem, knB, knCells], by simp [go_sem, knB, knCells], by simp [go_sem, knB, knCells], by simp [go_sem, knB, knCells], ⟨by simp [knB], small _ (by decide), small _ (by decide), fun j hj => absurd hj (by simp [knB])⟩⟩
  | 2, _ => exact ⟨by simp [go_sem, knB, knCells], by simp [go_sem, knB, knCells], by simp [go_sem, knB, knCells], by simp [go_sem, knB, knCells], by simp [go_sem, knB, knCells], ⟨by simp [knB], small _ (by decide), small _ (by decide), fun j hj => absurd hj (by simp [knB])⟩⟩
theorem knA_out : (checkOut (mayB knA) 3).1 = 0 := by decide +kernel
theorem kn_diffE : diffE (madeR knA 3) knB 3 = (0, 0) := by decide +kernel
def knP : Pat := ⟨2, 3, 1, 2, 0, ⟨#[]⟩, ⟨#[]⟩, ⟨#[]⟩⟩
theorem kn_diffP : diffP (madeR knA 3) 3 knB 3 = [knP] := by kernel_rfl
def knR : List RN := [rnOf knA 0, rnOf knA 2, rnOf knA 1]
theorem kn_did : didP (madeR knA 3) knP = knR := by kernel_rfl
theorem kn_wid : widP knR 3 0 = [1, 3, 2] := by kernel_rfl
theorem kn_walk : walkP knR 3 0 0 = [(0, 0), (1, 1), (2, 1)] := by kernel_rfl
theorem kn_can : canP (madeR knA 3) 3 knP = true := by
  have hW : ¬ WithinP (madeR knA 3) 1 3 := by
    rintro ⟨m, e⟩
    have h1 : upP (madeR knA 3) 1 = 0 := by kernel_rfl
    cases m with
    | zero => cases e
    | succ m => rw [upN, h1, upN_zero] at e; cases e
  unfold canP
  rw [if_neg (by decide), if_pos (by decide)]
  unfold insB
  have hd : ∀ i : Decidable (WithinP (madeR knA 3) knP.par knP.id), @decide _ i = false := fun i => decide_eq_false hW
  rw [hd]
  decide +kernel
def patZ : Pat := ⟨0, 0, 0, 0, 0, ⟨#[]⟩, ⟨#[]⟩, ⟨#[]⟩⟩
def patAt (P : List Pat) (i : Nat) : Pat := P.getD i patZ
theorem patsL_get (P : List Pat) : ∀ j, j < P.length * 8 → (patsL P)[j]? = some (patsCell (patAt P) j) := by
  induction P with
  | nil => intro j hj; simp at hj
  | cons x P ih =>
    intro j hj
    have e : patsL (x :: P) = x.cells ++ patsL P := by unfold patsL; rw [List.flatMap_cons]
    rw [e]
    by_cases h8 : j < 8
    · rw [List.getElem?_append_left (by show j < 8; exact h8)]
      match j, h8 with
      | 0, _ => rfl
      | 1, _ => rfl
      | 2, _ => rfl
      | 3, _ => rfl
      | 4, _ => rfl
      | 5, _ => rfl
      | 6, _ => rfl
      | 7, _ => rfl
    · rw [List.getElem?_append_right (by show 8 ≤ j; omega)]
      have e2 : j - x.cells.length = j - 8 := rfl
      rw [e2, ih (j - 8) (by simp at hj; omega)]
      unfold patsCell
      have e3 : j / 8 = (j - 8) / 8 + 1 := by omega
      have e4 : (j - 8) % 8 = j % 8 := by omega
      rw [e3, e4]
      rfl
theorem pats_row {w : World} {B : Nat} {ao : Option Addr} {n c : Nat} {P : List Pat} (h : w.ownsRow B 43 8 (.slice ao n c) n (patsL P)) (hn : n = P.length) : PListAt w ao n (patAt P) := fun h0 => by
  rcases h.2 with ⟨e, e0⟩ | ⟨g, cap, cur, e, hb, hg, _⟩
  · omega
  · simp at e
    obtain ⟨rfl, rfl⟩ := e
    refine ⟨g, 0, rfl, (Array.getElem?_eq_some_iff.1 hg).1, fun j hj => ?_⟩
    rw [Nat.zero_add, h.cellAt j hj, patsL_get P j (by omega)]
end Go.Proofs.Ytobgcaemnpkbmaa
namespace Go.Proofs.Ytobgcaemnpkbmaa
open Go.RowKit
theorem madeR_keys {L : Nat → Nod} {n : Nat} (h : ∀ i, i < n → I64 (L i).k) : Keys (madeR L n) := fun m hm => by
  obtain ⟨i, hi, rfl⟩ := List.getElem_of_mem hm
  rw [madeR_get]
  rw [madeR_length] at hi
  exact h i hi
theorem knA_keys : ∀ i, i < 3 → I64 (knA i).k := fun i hi => by
  match i, hi with
  | 0, _ => exact ⟨by decide, by decide⟩
  | 1, _ => exact ⟨by decide, by decide⟩
  | 2, _ => exact ⟨by decide, by decide⟩
theorem knB_keys : ∀ i, i < 3 → I64 (knB i).k := fun i hi => by
  match i, hi with
  | 0, _ => exact ⟨by decide, by decide⟩
  | 1, _ => exact ⟨by decide, by decide⟩
  | 2, _ => exact ⟨by decide, by decide⟩
theorem kn_apply (ρ : Roles) (nb : Int → Nat) (mb q db : Nat) (w : World) (h : DomAt ρ nb mb q db w (madeR knA 3) 3) (ao : Option Addr) (c : Nat) (hrow : w.ownsRow 0 43 8 (.slice ao 1 c) 1 (patsL [knP])) (hfree : ∀ a, ao = some a → ρ a.block = none) :
    Calls Try.prog 15 #[.pointer (some ⟨db, 0, none⟩), .slice ao 1 c] w fun e w' => e = .returned (.tuple #[.int .i64 0, .int .i64 0]) ∧ ∃ nb' ρ', Wrote ρ ρ' w w' ∧ DomAt ρ' nb' mb q db w' knR 3 := by
  refine (dapply ρ nb mb q db w (madeR knA 3) 3 h ao 1 c (patAt [knP]) (by decide) (by decide) (pats_row hrow rfl) (fun _ => hfree) (fun i hi => ?_)).mono ?_
  · have : i = 0 := by omega
    subst this
    refine ⟨⟨?_, ?_, ?_⟩, ⟨?_, ?_, ?_⟩⟩
    · show (0 : Nat) ≤ _; exact Nat.zero_le _
    · show (0 : Nat) ≤ _; exact Nat.zero_le _
    · show (0 : Nat) ≤ _; exact Nat.zero_le _
    · exact ⟨by decide, by decide⟩
    · exact ⟨by decide, by decide⟩
    · exact ⟨by decide, by decide⟩
  · rintro e w' ⟨x, y, rfl, k, hk, hr, ⟨nb', ρ', hw, hd⟩, hout⟩
    rcases hout with ⟨rfl, rfl, rfl⟩ | ⟨h1, h2, _⟩
    · refine ⟨rfl, nb', ρ', hw, ?_⟩
      have e1 : (runP (madeR knA 3) 3 (patAt [knP]) 1).1 = knR := kn_did
      have e2 : (runP (madeR knA 3) 3 (patAt [knP]) 1).2 = 3 := by kernel_rfl
      rw [e1, e2] at hd
      exact hd
    · have : k = 0 := by omega
      subst this
      have e1 : canP (runP (madeR knA 3) 3 (patAt [knP]) 0).1 (runP (madeR knA 3) 3 (patAt [knP]) 0).2 (patAt [knP] 0) = canP (madeR knA 3) 3 knP := rfl
      rw [e1, kn_can] at h2
      cases h2
theorem kn_same {N : List TN} (h : TellL knR [(0, 0), (1, 1), (2, 1)] N) (ha : ∀ n, n ∈ N → n.an = n.ats.length) : N.length = 3 ∧ ∀ i, i < 3 → (nodsK N i).d = (knB i).d ∧ (nodsK N i).t = (knB i).t ∧ (nodsK N i).k = (knB i).k ∧ (nodsK N i).x = (knB i).x ∧ (nodsK N i).an = (knB i).an ∧ ∀ j, j < (knB i).an → (nodsK N i).nm j = (knB i).nm j ∧ (nodsK N i).vl j = (knB i).vl j := by
  have hl : N.length = 3 := h.1
  refine ⟨hl, fun i hi => ?_⟩
  have hn : i < N.length := by omega
  have ht := h.2 i (by exact hi) hn
  have hA := ha _ (List.getElem_mem hn)
  rw [nodsK_lt hn]
  obtain ⟨hx, h1, h2, h3, h4, h5⟩ := ht
  rw [h5] at hA
  match i, hi with
  | 0, _ => exact ⟨h1, h2, h3, h4, hA, fun j hj => absurd hj (Nat.not_lt_zero _)⟩
  | 1, _ => exact ⟨h1, h2, h3, h4, hA, fun j hj => absurd hj (Nat.not_lt_zero _)⟩
  | 2, _ => exact ⟨h1, h2, h3, h4, hA, fun j hj => absurd hj (Nat.not_lt_zero _)⟩
theorem knB_blk {w : World} {b : Nat} {t : TypeId} (h : w.heap[b]? = some (.cells (knCells 2 1) t (0, 0))) : ListAt w (some ⟨b, 0, none⟩) 3 knB := by
  intro _
  refine ⟨b, 0, rfl, lt_of_blk h, fun i hi => ?_⟩
  have small : ∀ n : Nat, n ≤ 8 → n ≤ maxLen := fun n h => by unfold maxLen; omega
  match i, hi with
  | 0, _ => exact ⟨cell_of_blk h 0 _ rfl, cell_of_blk h 1 _ rfl, cell_of_blk h 2 _ rfl, cell_of_blk h 3 _ rfl, cell_of_blk h 4 _ rfl, ⟨Nat.zero_le _, small _ (by decide), small _ (by decide), fun j hj => absurd hj (Nat.not_lt_zero _)⟩⟩
  | 1, _ => exact ⟨cell_of_blk h 5 _ rfl, cell_of_blk h 6 _ rfl, cell_of_blk h 7 _ rfl, cell_of_blk h 8 _ rfl, cell_of_blk h 9 _ rfl, ⟨Nat.zero_le _, small _ (by decide), small _ (by decide), fun j hj => absurd hj (Nat.not_lt_zero _)⟩⟩
  | 2, _ => exact ⟨cell_of_blk h 10 _ rfl, cell_of_blk h 11 _ rfl, cell_of_blk h 12 _ rfl, cell_of_blk h 13 _ rfl, cell_of_blk h 14 _ rfl, ⟨Nat.zero_le _, small _ (by decide), small _ (by decide), fun j hj => absurd hj (Nat.not_lt_zero _)⟩⟩
theorem kn_tree (ρ : Roles) (nb : Int → Nat) (mb q db : Nat) (w : World) (h : DomAt ρ nb mb q db w knR 3) :
    Calls Try.prog 18 #[.pointer (some ⟨db, 0, none⟩)] w fun e w' => ∃ ao c N, e = .returned (.slice ao 3 c) ∧ ListAt w' ao 3 (nodsK N) ∧ (∀ i, i < 3 → (nodsK N i).d = (knB i).d ∧ (nodsK N i).t = (knB i).t ∧ (nodsK N i).k = (knB i).k ∧ (nodsK N i).x = (knB i).x ∧ (nodsK N i).an = (knB i).an ∧ ∀ j, j < (knB i).an → (nodsK N i).nm j = (knB i).nm j ∧ (nodsK N i).vl j = (knB i).vl j) ∧ Below w.heap.size w w' := by
  refine (dtree ρ nb mb q db w knR 3 h 0 (by decide) rfl).mono ?_
  rintro e w' ⟨v, rfl, N, hT, hL, hb⟩
  have e1 : walkP knR knR.length 0 0 = [(0, 0), (1, 1), (2, 1)] := kn_walk
  rw [e1] at hL
  obtain ⟨h3, hs⟩ := kn_same hL fun n hn => (hT.node n hn).an
  obtain ⟨ao, c, rfl⟩ := own_shape hT.row
  have hl := hT.listK rfl (by omega) (tellK_few hL fun n hn => by
    obtain ⟨av, kv, hp⟩ := h.dom.node n hn
    exact hp.few)
  rw [h3] at hl ⊢
  exact ⟨ao, c, N, rfl, hl, hs, hb⟩
theorem kn_ids (ρ : Roles) (nb : Int → Nat) (mb q db : Nat) (w : World) (h : DomAt ρ nb mb q db w knR 3) :
    Calls Try.prog 16 #[.pointer (some ⟨db, 0, none⟩)] w fun e w' => ∃ g c, e = .returned (.slice (some ⟨g, 0, none⟩) 3 c) ∧ w'.cell? ⟨g, 1, none⟩ = some (.int .i64 3) ∧ w'.cell? ⟨g, 2, none⟩ = some (.int .i64 2) ∧ Below w.heap.size w w' := by
  refine (dids ρ nb mb q db w knR 3 h 0 (by decide) rfl).mono ?_
  rintro e w' ⟨v, rfl, hr, hb⟩
  have e1 : widP knR knR.length 0 = [1, 3, 2] := kn_wid
  rw [e1] at hr
  obtain ⟨ao, c, rfl⟩ := own_shape hr
  obtain ⟨g, hl, e, _, c1⟩ := row_at hr (j := 1) (by decide)
  obtain ⟨g2, hl2, e2, _, c2⟩ := row_at hr (j := 2) (by decide)
  rw [e] at e2
  cases e2
  subst e
  exact ⟨g, c, rfl, c1, c2, hb⟩
theorem kn_b1 {w1 w2 : World} {o : Obj} (h : Below (w1.heap.size + 1) (w1.alloc o) w2) : Below w1.heap.size w1 w2 := ((Below.refl w1.heap.size w1).alloc (Nat.le_refl _) o).trans (h.mono (Nat.le_succ _))
theorem kn_free {ρ : Roles} {nb : Int → Nat} {mb q db : Nat} {w : World} {R : List RN} {last : Int} (h : DomAt ρ nb mb q db w R last) {g : Nat} (hg : w.heap.size + 1 ≤ g) : ρ g = none := by
  cases e : ρ g with
  | none => rfl
  | some v => have := h.dom.low g (by rw [e]; rfl); omega
theorem kn_want {ρ ρ3 : Roles} {nb : Int → Nat} {mb q db : Nat} {w1 w2 w3 w4 : World} {R : List RN} {last : Int} (h : DomAt ρ nb mb q db w1 R last) {t : TypeId} (h2 : Below (w1.heap.size + 1) (w1.alloc (.cells (knCells 2 1) t)) w2) (h3 : Wrote ρ ρ3 w2 w3) (h4 : Below w3.heap.size w3 w4) : w4.heap[w1.heap.size]? = some (.cells (knCells 2 1) t (0, 0)) := by
  have hz : (w1.alloc (.cells (knCells 2 1) t)).heap.size = w1.heap.size + 1 := by simp
  have s2 := h2.size
  have s3 := h3.1.size
  have hρ : ρ w1.heap.size = none := by
    cases e : ρ w1.heap.size with
    | none => rfl
    | some v => have := h.dom.low w1.heap.size (by rw [e]; rfl); omega
  rw [h4.block _ (by omega), h3.1.block _ (by omega) (by rw [hρ]; simp), h2.block _ (by omega)]
  show (w1.heap.push _)[w1.heap.size]? = _
  simp
theorem kn_cell {ρ ρ3 : Roles} {nb : Int → Nat} {mb q db : Nat} {w1 w2 w3 w4 w5 w6 : World} {R : List RN} {last : Int} (h : DomAt ρ nb mb q db w1 R last) {g : Nat} (hg : w1.heap.size + 1 ≤ g) {v : Value} (hc : w2.cell? ⟨g, 0, none⟩ = some v) (h3 : Wrote ρ ρ3 w2 w3) (h4 : Below w3.heap.size w3 w4) (h5 : Below w4.heap.size w4 w5) (h6 : Below w5.heap.size w5 w6) : w6.cell? ⟨g, 0, none⟩ = some v := by
  have hl : g < w2.heap.size := World.block_lt_of_cell? _ _ hc
  have s3 := h3.1.size
  have s4 := h4.size
  have s5 := h5.size
  rw [← hc]
  refine World.cell?_of_block ?_
  show w6.heap[g]? = w2.heap[g]?
  rw [h6.block _ (by omega), h5.block _ (by omega), h4.block _ (by omega), h3.1.block _ hl (by rw [kn_free h hg]; simp)]
set_option maxHeartbeats 2000000 in
set_option maxRecDepth 100000 in
theorem known_any (w : World) : Calls Try.prog 13 #[] w fun e w' => e = .returned (.bool true) ∧ Below w.heap.size w w' := by
  have HC1 : Hid (Calls Try.prog 14 #[.slice (some ⟨w.heap.size, 0, none⟩) 3 3] (w.alloc (.cells (knCells 1 2) 28)) fun e w' => ∃ ρ nb mb q db, e = .returned (.tuple #[.pointer (some ⟨db, 0, none⟩), .int .i64 0, .int .i64 0]) ∧ w.heap.size ≤ db ∧ (∀ b, (ρ b).isSome = true → w.heap.size ≤ b) ∧ DomAt ρ nb mb q db w' (madeR knA 3) 3 ∧ Below w.heap.size w w') := hide (by
    have hb : Below w.heap.size w (w.alloc (.cells (knCells 1 2) 28)) := (Below.refl _ _).alloc (Nat.le_refl _) _
    refine (dnew_ok w.heap.size 0 3 3 knA _ (by decide) (knA_list w _) knA_out).mono ?_
    rintro e w' ⟨ρ, nb, mb, q, db, h1, h2, h3, h4, h5⟩
    exact ⟨ρ, nb, mb, q, db, h1, Nat.le_trans hb.size h2, fun b e => Nat.le_trans hb.size (h3 b e), h4, hb.trans (h5.mono hb.size)⟩)
  have HC2 : Hid (∀ ρ nb mb q db w1, DomAt ρ nb mb q db w1 (madeR knA 3) 3 → Calls Try.prog 20 #[.pointer (some ⟨db, 0, none⟩), .slice (some ⟨w1.heap.size, 0, none⟩) 3 3] (w1.alloc (.cells (knCells 2 1) 28)) fun e w' => ∃ g c, e = .returned (.tuple #[.slice (some ⟨g, 0, none⟩) 1 c, .int .i64 0, .int .i64 0]) ∧ w1.heap.size + 1 ≤ g ∧ w'.cell? ⟨g, 0, none⟩ = some (.int .i64 2) ∧ w'.ownsRow 0 43 8 (.slice (some ⟨g, 0, none⟩) 1 c) 1 (patsL [knP]) ∧ Below (w1.heap.size + 1) (w1.alloc (.cells (knCells 2 1) 28)) w') := hide fun ρ nb mb q db w1 hd => by
    have hb : Below w1.heap.size w1 (w1.alloc (.cells (knCells 2 1) 28)) := (Below.refl _ _).alloc (Nat.le_refl _) _
    have hz : (w1.alloc (.cells (knCells 2 1) 28)).heap.size = w1.heap.size + 1 := by simp
    refine (ddiff ρ nb mb q db _ (madeR knA 3) 3 (hd.below hb) (madeR_keys knA_keys) (by decide) (some ⟨w1.heap.size, 0, none⟩) 3 3 knB (by decide) (by decide) (knB_list w1 _) knB_keys).mono ?_
    rintro e w' ⟨v, x, y, rfl, rfl, rfl, h1, h2⟩
    rw [kn_diffE] at h1 ⊢
    rw [if_pos rfl, kn_diffP] at h1
    rw [hz] at h1 h2
    rcases h1.2 with ⟨_, e0⟩ | ⟨g, cap, cur, rfl, hg, h3⟩
    · cases e0
    · exact ⟨g, cap, rfl, hg, h1.cellAt 0 (by decide), ⟨h1.1, .inr ⟨g, cap, cur, rfl, Nat.zero_le _, h3⟩⟩, h2⟩
  go_enter Try.func13, Try.ntmps13
  go_wp2_with (first | (go_at_call 14; refine (unhide HC1).mono ?_; rintro e w1 ⟨ρ, nb, mb, q, db, rfl, hdb, hρ, hD1, hb1⟩; have HD1 := hide hD1; have HB1 := hide hb1; have HP1 := hide hρ; clear hD1 hb1 hρ hdb) | (go_at_call 20; refine (unhide HC2 _ _ _ _ _ _ HD1.out).mono ?_; rintro e w2 ⟨g, c, rfl, hg, cg, hr2, hb2⟩; have HR2 := hide hr2; have HB2 := hide hb2; have HG := hide hg; have CG := hide cg; clear hr2 hb2 hg cg) | (go_at_call 15; refine (kn_apply ρ nb mb q db w2 (HD1.out.below (kn_b1 HB2.out)) _ c HR2.out (fun a e => by cases e; exact kn_free HD1.out HG.out)).mono ?_; rintro e w3 ⟨rfl, nb3, ρ3, hw3, hD3⟩; have HW3 := hide hw3; have HD3 := hide hD3; clear hw3 hD3) | (go_at_call 18; refine (kn_tree ρ3 nb3 mb q db w3 HD3.out).mono ?_; rintro e w4 ⟨a4, c4, N4, rfl, hl4, hs4, hb4⟩; have HL4 := hide hl4; have HS4 := hide hs4; have HB4 := hide hb4; clear hl4 hs4 hb4) | (go_at_call 17; refine (keepSame_any a4 _ 3 c4 3 (nodsK N4) knB w4 (by decide) HL4.out (knB_blk (t := 28) (kn_want HD1.out HB2.out HW3.out HB4.out)) HS4.out).mono ?_; rintro e w5 ⟨rfl, hb5⟩; have HB5 := hide hb5; clear hb5) | (go_at_call 16; refine (kn_ids ρ3 nb3 mb q db w5 ((HD3.out.below HB4.out).below HB5.out)).mono ?_; rintro e w6 ⟨g6, c6, rfl, k1, k2, hb6⟩; have cg6 := kn_cell HD1.out HG.out CG.out HW3.out HB4.out HB5.out hb6; have lg := World.block_lt_of_cell? _ _ cg6; have lg6 := World.block_lt_of_cell? _ _ k1; have HB6 := hide hb6; clear hb6))
  go_ret
  refine ⟨rfl, ?_⟩
  have b2 := HB1.out.trans ((kn_b1 HB2.out).mono HB1.out.size)
  have b3 : Below w.heap.size w w3 := b2.trans ⟨HW3.out.1.os, HW3.out.1.tape, HW3.out.1.output, HW3.out.1.size, fun b hb => HW3.out.1.block b (Nat.lt_of_lt_of_le hb b2.size) (fun e => by have := HP1.out b e; omega)⟩
  have b4 := b3.trans (HB4.out.mono b3.size)
  have b5 := b4.trans (HB5.out.mono b4.size)
  exact b5.trans (HB6.out.mono b5.size)
end Go.Proofs.Ytobgcaemnpkbmaa
namespace Go.Proofs.Ytobgcaemnpkbmaa
open Go.RowKit
structure TwoAt (w0 w : World) (d1 d2 : Nat) (R1 R2 : List RN) (l1 l2 : Int) (ρ1 ρ2 : Roles) (n1 n2 : Int → Nat) (m1 m2 q1 q2 : Nat) : Prop where
  one : DomAt ρ1 n1 m1 q1 d1 w R1 l1
  two : DomAt ρ2 n2 m2 q2 d2 w R2 l2
  a12 : Apart ρ1 ρ2
  a21 : Apart ρ2 ρ1
  o12 : ρ1 d2 = none
  o21 : ρ2 d1 = none
  bel : Below w0.heap.size w0 w
  b1 : ∀ b, (ρ1 b).isSome = true → w0.heap.size ≤ b
  b2 : ∀ b, (ρ2 b).isSome = true → w0.heap.size ≤ b
def Two (w0 w : World) (d1 d2 : Nat) (R1 R2 : List RN) (l1 l2 : Int) : Prop := ∃ ρ1 ρ2 n1 n2 m1 m2 q1 q2, TwoAt w0 w d1 d2 R1 R2 l1 l2 ρ1 ρ2 n1 n2 m1 m2 q1 q2
theorem Two.below {w0 w w' : World} {d1 d2 : Nat} {R1 R2 : List RN} {l1 l2 : Int} (h : Two w0 w d1 d2 R1 R2 l1 l2) (hb : Below w.heap.size w w') : Two w0 w' d1 d2 R1 R2 l1 l2 := by
  obtain ⟨ρ1, ρ2, n1, n2, m1, m2, q1, q2, h⟩ := h
  exact ⟨ρ1, ρ2, n1, n2, m1, m2, q1, q2, h.one.below hb, h.two.below hb, h.a12, h.a21, h.o12, h.o21, h.bel.trans (hb.mono h.bel.size), h.b1, h.b2⟩
theorem Two.bel {w0 w : World} {d1 d2 : Nat} {R1 R2 : List RN} {l1 l2 : Int} (h : Two w0 w d1 d2 R1 R2 l1 l2) : Below w0.heap.size w0 w := by
  obtain ⟨ρ1, ρ2, n1, n2, m1, m2, q1, q2, h⟩ := h
  exact h.bel
theorem below_wroteK {w0 w w' : World} {ρ ρ' : Roles} (hb : Below w0.heap.size w0 w) (h : Wrote ρ ρ' w w') (hl : ∀ b, (ρ b).isSome = true → w0.heap.size ≤ b) : Below w0.heap.size w0 w' :=
  hb.trans ⟨h.1.os, h.1.tape, h.1.output, h.1.size, fun b hlt => h.1.block b (Nat.lt_of_lt_of_le hlt hb.size) fun e => by have := hl b e; omega⟩
theorem wid_facts {R : List RN} {last : Int} (h : DocOk R last) {r : Nat} (hr : r < R.length) (hr1 : R[r].id = 1) : (widP R R.length r).length = (walkP R R.length r 0).length ∧ (widP R R.length r).getD 0 0 = 1 ∧ 0 < (widP R R.length r).length ∧ (widP R R.length r).length ≤ R.length ∧ (widP R R.length r).Nodup := by
  obtain ⟨rk, hU⟩ := h.up
  have e := widP_walk R R.length r 0
  have hl : (widP R R.length r).length = (walkP R R.length r 0).length := by rw [← e, List.length_map]
  have hw := walkK_few h hr 0
  have hc : ∃ l, widP R R.length r = 1 :: l := by
    cases hL : R.length with
    | zero => omega
    | succ f => exact ⟨_, by rw [widP, idAt_lt hr, hr1]⟩
  obtain ⟨l, hc⟩ := hc
  refine ⟨hl, by rw [hc]; rfl, by rw [hc]; simp, by omega, ?_⟩
  rw [← e]
  have hn := walk_nodup hU h.ids R.length r 0 (fitP_all hU hr)
  unfold List.Nodup at hn ⊢
  rw [List.pairwise_map] at hn ⊢
  refine hn.imp_of_mem fun {x y} hx hy hne e => hne ?_
  have h1 := (walk_up h.ids _ _ _ (fitP_all hU hr) x hx).1
  have h2 := (walk_up h.ids _ _ _ (fitP_all hU hr) y hy).1
  rw [idAt_lt h1, idAt_lt h2] at e
  exact h.ids.inj _ _ h1 h2 e
end Go.Proofs.Ytobgcaemnpkbmaa
