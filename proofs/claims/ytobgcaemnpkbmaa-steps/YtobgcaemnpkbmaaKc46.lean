/- Hb Hc -/
import Derived.Test.YtobgcaemnpkbmaaKc39
import Derived.Test.YtobgcaemnpkbmaaKc45
import Derived.Test.YtobgcaemnpkbmaaKc29
namespace Go.Proofs.Ytobgcaemnpkbmaa
open Go.RowKit
theorem tellOf_getK (N : List TN) (i r : Nat) (hi : i < N.length) (hr : r < 5) : (tellOf N)[i * 5 + r]? = (N[i]).cells[r]? := by
  induction N generalizing i with
  | nil => exact absurd hi (Nat.not_lt_zero _)
  | cons a N ih =>
    have e : tellOf (a :: N) = a.cells ++ tellOf N := by unfold tellOf; rw [List.flatMap_cons]
    rw [e]
    cases i with
    | zero => rw [List.getElem?_append_left (by show 0 * 5 + r < 5; omega)]; simp
    | succ i =>
      rw [List.getElem?_append_right (by show 5 ≤ _; omega)]
      have e2 : (i + 1) * 5 + r - a.cells.length = i * 5 + r := by show _ - 5 = _; omega
      rw [e2, ih i (by simpa using hi)]
      rfl
def TN.nodK (n : TN) : Nod := ⟨n.d, n.tag, n.key, n.ao, n.an, n.ac, n.text, nmOf n.ats, vlOf n.ats⟩
def TN.zeroK : TN := ⟨0, ⟨#[]⟩, 0, ⟨#[]⟩, [], none, 0, 0⟩
def nodsK (N : List TN) (i : Nat) : Nod := (N.getD i TN.zeroK).nodK
theorem nodsK_lt {N : List TN} {i : Nat} (h : i < N.length) : nodsK N i = N[i].nodK := by
  unfold nodsK
  rw [List.getD_eq_getElem?_getD, List.getElem?_eq_getElem h]
  rfl
theorem TellAt.listK {B : Nat} {w : World} {ao : Option Addr} {n c : Nat} {N : List TN} (h : TellAt B w (.slice ao n c) N) (hn : n = N.length) (hl : N.length ≤ 1000000) (hfew : ∀ x, x ∈ N → x.ats.length ≤ 5) : ListAt w ao n (nodsK N) := by
  subst hn
  intro h0
  rcases h.row.2 with ⟨e, _⟩ | ⟨g, cap, cur, e, _, hg, _⟩
  · simp at e; omega
  · simp at e
    obtain ⟨rfl, rfl⟩ := e
    have hgl : g < w.heap.size := (Array.getElem?_eq_some_iff.1 hg).1
    refine ⟨g, 0, rfl, hgl, fun i hi => ?_⟩
    have hx := h.node _ (List.getElem_mem hi)
    have hf := hfew _ (List.getElem_mem hi)
    have cell : ∀ r, r < 5 → w.cell? ⟨g, 0 + i * 5 + r, none⟩ = N[i].cells[r]? := fun r hr => by
      rw [Nat.zero_add, h.row.cellAt (i * 5 + r) (by omega), tellOf_getK N i r hi hr]
    rw [nodsK_lt hi]
    refine ⟨cell 0 (by omega), cell 1 (by omega), cell 2 (by omega), cell 3 (by omega), cell 4 (by omega), ⟨?_, hx.tag, hx.text, attrs_of_row hx.row hx.an hx.size⟩⟩
    show N[i].an ≤ maxLen
    rw [hx.an]; unfold maxLen; omega
theorem tellK_few {R : List RN} {W : List (Nat × Int)} {N : List TN} (h : TellL R W N) (hR : ∀ n, n ∈ R → n.ats.length ≤ 5) : ∀ x, x ∈ N → x.ats.length ≤ 5 := fun x hx => by
  obtain ⟨i, hi, rfl⟩ := List.getElem_of_mem hx
  obtain ⟨hl, _, _, _, _, e⟩ := h.2 i (by rw [← h.1]; exact hi) hi
  rw [e]
  exact hR _ (List.getElem_mem hl)
theorem root_at {R : List RN} {last : Int} (h : DocOk R last) : ∃ r, ∃ hr : r < R.length, R[r].id = 1 ∧ atP R 1 = (r : Int) := by
  obtain ⟨n, hn, h1, _⟩ := h.root
  rcases at_two h.ids 1 with e | ⟨e, _⟩
  · exact e
  · exact absurd h1 (e n hn)
theorem walkK_few {R : List RN} {last : Int} (h : DocOk R last) {r : Nat} (hr : r < R.length) (d : Int) : (walkP R R.length r d).length ≤ R.length := by
  obtain ⟨rk, hU⟩ := h.up
  exact walk_length hU h.ids (fitP_all hU hr)
structure DomAt (ρ : Roles) (nb : Int → Nat) (mb q db : Nat) (w : World) (R : List RN) (last : Int) : Prop where
  blk : w.heap[db]? = some (.cells #[.pointer (some ⟨q, 0, none⟩)] 65 (0, 0))
  out : ρ db = none
  dom : Dom ρ nb mb (some (nb 1)) w q R last
  ok : DocOk R last
  fine : Fine R
def Apart (ρ ρ2 : Roles) : Prop := ∀ b, (ρ b).isSome = true → ρ2 b = none
theorem DomAt.below {ρ : Roles} {nb : Int → Nat} {mb q db : Nat} {w w' : World} {R : List RN} {last : Int} (h : DomAt ρ nb mb q db w R last) (hb : Below w.heap.size w w') : DomAt ρ nb mb q db w' R last :=
  ⟨(hb.block db (lt_of_blk h.blk)).trans h.blk, h.out, h.dom.below hb, h.ok, h.fine⟩
theorem DomAt.other {ρ ρ2 ρ3 : Roles} {nb : Int → Nat} {mb q db : Nat} {w w' : World} {R : List RN} {last : Int} (h : DomAt ρ nb mb q db w R last) (ha : Apart ρ ρ2) (hd : ρ2 db = none) (hw : Wrote ρ2 ρ3 w w') : DomAt ρ nb mb q db w' R last ∧ Apart ρ ρ3 ∧ ρ3 db = none := by
  have h3 : ∀ b, b < w.heap.size → ρ2 b = none → ρ3 b = none := fun b hb e => by
    cases e3 : ρ3 b with
    | none => rfl
    | some v =>
      rcases hw.2.2 b (by rw [e3]; rfl) with e4 | e4
      · rw [e] at e4; cases e4
      · omega
  refine ⟨⟨(hw.1.block db (lt_of_blk h.blk) (by rw [hd]; simp)).trans h.blk, h.out, h.dom.touch hw.1 fun b e => by rw [ha b e]; simp, h.ok, h.fine⟩, fun b e => h3 b (h.dom.low b e) (ha b e), h3 db (lt_of_blk h.blk) hd⟩
theorem dnew_ok (b o n c : Nat) (L : Nat → Nod) (w : World) (hn : n ≤ maxLen) (H : ListAt w (some ⟨b, o, none⟩) n L) (hz : (checkOut (mayB L) n).1 = 0) :
    Calls Try.prog 14 #[.slice (some ⟨b, o, none⟩) n c] w fun e w' => ∃ ρ nb mb q db, e = .returned (.tuple #[.pointer (some ⟨db, 0, none⟩), .int .i64 0, .int .i64 0]) ∧ w.heap.size ≤ db ∧ (∀ b, (ρ b).isSome = true → w.heap.size ≤ b) ∧ DomAt ρ nb mb q db w' (madeR L n) n ∧ Below w.heap.size w w' := by
  obtain ⟨e0, hn0, hn4, hmay⟩ := check_none hz
  have HC := treeCheck_any (some ⟨b, o, none⟩) n c L w hn H
  rw [e0] at HC
  obtain ⟨b', o', e, hN⟩ := H hn0
  cases e
  have hP := pnew_ok b o n c L w hn0 hn4 hN (NewOk.of hn0 hmay) (hide HC)
  refine (wrap_new (some ⟨b, o, none⟩) n c w (fun q w' => ∃ ρ nb mb, w.heap.size ≤ q ∧ (∀ b, (ρ b).isSome = true → w.heap.size ≤ b) ∧ Dom ρ nb mb (some (nb 1)) w' q (madeR L n) n ∧ Below w.heap.size w w') (hide (hP.mono ?_))).mono ?_
  · rintro e w' ⟨ρ, nb, mb, q, rfl, h1, h2, h3, h4⟩
    exact ⟨q, rfl, ρ, nb, mb, h1, h2, h3, h4⟩
  · rintro e w5 ⟨q, w4, ⟨ρ, nb, mb, h1, h2, h3, h4⟩, rfl, rfl⟩
    refine ⟨ρ, nb, mb, q, w4.heap.size, rfl, h4.size, h2, ⟨by show (w4.heap.push _)[w4.heap.size]? = _; simp, ?_, h3.below ((Below.refl _ _).alloc (Nat.le_refl _) _), made_ok hn0 hmay, made_fine hmay⟩, h4.alloc h4.size _⟩
    cases e : ρ w4.heap.size with
    | none => rfl
    | some v => have := h3.low w4.heap.size (by rw [e]; rfl); omega
theorem dnew_bad (ao : Option Addr) (n c : Nat) (L : Nat → Nod) (w : World) (hn : n ≤ maxLen) (H : ListAt w ao n L) (hz : (checkOut (mayB L) n).1 ≠ 0) :
    Calls Try.prog 14 #[.slice ao n c] w fun e w' => e = .returned (.tuple #[.pointer none, .int .i64 (checkOut (mayB L) n).1, .int .i64 (checkOut (mayB L) n).2]) ∧ Below w.heap.size w w' := by
  have HC := treeCheck_any ao n c L w hn H
  have hne : ((checkOut (mayB L) n).1 != 0) = true := by simpa using hz
  exact wrap_bad ao n c w _ _ hne (hide (pnew_bad ao n c w _ _ hne (hide HC)))
theorem dapply (ρ : Roles) (nb : Int → Nat) (mb q db : Nat) (w : World) (R : List RN) (last : Int) (h : DomAt ρ nb mb q db w R last) (ao : Option Addr) (n c : Nat) (X : Nat → Pat) (hl : last + n ≤ 4611686018427387904) (hn : n ≤ 2199023255552) (hX : PListAt w ao n X) (hfree : 0 < n → ∀ a, ao = some a → ρ a.block = none) (hx : ∀ i, i < n → (X i).Ok ∧ (X i).Ints) :
    Calls Try.prog 15 #[.pointer (some ⟨db, 0, none⟩), .slice ao n c] w fun e w' => ∃ x y, e = .returned (.tuple #[.int .i64 x, .int .i64 y]) ∧ ∃ k, k ≤ n ∧ RunsTo R last X k ∧ (∃ nb' ρ', Wrote ρ ρ' w w' ∧ DomAt ρ' nb' mb q db w' (runP R last X k).1 (runP R last X k).2) ∧ ((k = n ∧ x = 0 ∧ y = 0) ∨ (k < n ∧ canP (runP R last X k).1 (runP R last X k).2 (X k) = false ∧ x = 4 ∧ y = k)) := by
  refine wrap_apply db q w ao n c _ (cell_of_blk h.blk 0 _ rfl) (hide ((apply_big ρ nb mb w q R last h.dom h.ok h.fine ao n c X hl hn hX hfree hx).mono ?_))
  rintro e w' ⟨k, hk, hr, ⟨nb', ρ', hw, hd⟩, hout⟩
  obtain ⟨o1, o2, _⟩ := hr.ok h.ok h.fine
  have hdb : ρ' db = none := by
    cases e3 : ρ' db with
    | none => rfl
    | some v =>
      rcases hw.2.2 db (by rw [e3]; rfl) with e4 | e4
      · rw [h.out] at e4; cases e4
      · have := lt_of_blk h.blk; omega
  have hD : DomAt ρ' nb' mb q db w' (runP R last X k).1 (runP R last X k).2 := ⟨(hw.1.block db (lt_of_blk h.blk) (by rw [h.out]; simp)).trans h.blk, hdb, hd, o1, o2⟩
  rcases hout with ⟨h1, h2⟩ | ⟨h1, h2, h3⟩
  · exact ⟨0, 0, h2, k, hk, hr, ⟨nb', ρ', hw, hD⟩, .inl ⟨h1, rfl, rfl⟩⟩
  · exact ⟨4, k, h3, k, hk, hr, ⟨nb', ρ', hw, hD⟩, .inr ⟨h1, h2, rfl, rfl⟩⟩
theorem dtree (ρ : Roles) (nb : Int → Nat) (mb q db : Nat) (w : World) (R : List RN) (last : Int) (h : DomAt ρ nb mb q db w R last) (r : Nat) (hr : r < R.length) (hr1 : R[r].id = 1) :
    Calls Try.prog 18 #[.pointer (some ⟨db, 0, none⟩)] w fun e w' => ∃ v, e = .returned v ∧ ∃ N, TellAt w.heap.size w' v N ∧ TellL R (walkP R R.length r 0) N ∧ Below w.heap.size w w' :=
  wrap_tree db q w _ (cell_of_blk h.blk 0 _ rfl) (hide ((ptree_any ρ nb mb w q R last h.dom h.ok r hr hr1).mono fun _ _ ⟨v, N, h1, h2, h3, h4⟩ => ⟨v, h1, N, h2, h3, h4⟩))
theorem dids (ρ : Roles) (nb : Int → Nat) (mb q db : Nat) (w : World) (R : List RN) (last : Int) (h : DomAt ρ nb mb q db w R last) (r : Nat) (hr : r < R.length) (hr1 : R[r].id = 1) :
    Calls Try.prog 16 #[.pointer (some ⟨db, 0, none⟩)] w fun e w' => ∃ v, e = .returned v ∧ w'.ownsRow w.heap.size 3 1 v (widP R R.length r).length (ints (widP R R.length r)) ∧ Below w.heap.size w w' :=
  wrap_ids db q w _ (cell_of_blk h.blk 0 _ rfl) (hide (pids_any ρ nb mb w q R last h.dom h.ok r hr hr1))
theorem dloose (ρ : Roles) (nb : Int → Nat) (mb q db : Nat) (w : World) (R : List RN) (last : Int) (h : DomAt ρ nb mb q db w R last) (r : Nat) (hr : r < R.length) (hr1 : R[r].id = 1) :
    Calls Try.prog 19 #[.pointer (some ⟨db, 0, none⟩)] w fun e w' => ∃ v, e = .returned v ∧ v = .int .i64 ((R.length : Int) - ((widP R R.length r).length : Int)) ∧ Below w.heap.size w w' :=
  wrap_loose db q w _ (cell_of_blk h.blk 0 _ rfl) (hide ((ploose_any ρ nb mb w q R last h.dom h.ok r hr hr1).mono fun _ _ ⟨h1, h2⟩ => ⟨_, h1, rfl, h2⟩))
theorem ddiff (ρ : Roles) (nb : Int → Nat) (mb q db : Nat) (w : World) (R : List RN) (last : Int) (h : DomAt ρ nb mb q db w R last) (hK : Keys R) (hl1 : last + 400 ≤ 4611686018427387904) (ao : Option Addr) (n c : Nat) (L : Nat → Nod) (hn : n ≤ maxLen) (hc : n ≤ c) (hL : ListAt w ao n L) (hk : ∀ i, i < n → I64 (L i).k) :
    Calls Try.prog 20 #[.pointer (some ⟨db, 0, none⟩), .slice ao n c] w fun e w' => ∃ v x y, e = .returned (.tuple #[v, .int .i64 x, .int .i64 y]) ∧ x = (diffE R L n).1 ∧ y = (diffE R L n).2 ∧ w'.ownsRow w.heap.size 43 8 v (if (diffE R L n).1 = 0 then diffP R last L n else []).length (patsL (if (diffE R L n).1 = 0 then diffP R last L n else [])) ∧ Below w.heap.size w w' :=
  wrap_diff db q w ao n c _ (cell_of_blk h.blk 0 _ rfl) (hide ((pdiff_any ρ nb mb w q R last h.dom h.ok h.fine hK hl1 ao n c L hn hc hL hk).mono fun _ _ ⟨v, h1, h2, h3⟩ => ⟨v, _, _, h1, rfl, rfl, h2, h3⟩))
end Go.Proofs.Ytobgcaemnpkbmaa
namespace Go.Proofs.Ytobgcaemnpkbmaa
open Go.RowKit
def knA (i : Nat) : Nod := if i = 0 then ⟨0, ⟨#[100, 105, 118]⟩, 0, none, 0, 0, ⟨#[]⟩, fun _ => ⟨#[]⟩, fun _ => ⟨#[]⟩⟩ else ⟨1, ⟨#[112]⟩, i, none, 0, 0, ⟨#[]⟩, fun _ => ⟨#[]⟩, fun _ => ⟨#[]⟩⟩
def knB (i : Nat) : Nod := if i = 0 then ⟨0, ⟨#[100, 105, 118]⟩, 0, none, 0, 0, ⟨#[]⟩, fun _ => ⟨#[]⟩, fun _ => ⟨#[]⟩⟩ else ⟨1, ⟨#[112]⟩, 3 - i, none, 0, 0, ⟨#[]⟩, fun _ => ⟨#[]⟩, fun _ => ⟨#[]⟩⟩
def knCells (a b : Int) : Array Value := #[.int .i64 0, .string ⟨#[100, 105, 118]⟩, .int .i64 0, .slice none 0 0, .string ⟨#[]⟩, .int .i64 1, .string ⟨#[112]⟩, .int .i64 a, .slice none 0 0, .string ⟨#[]⟩, .int .i64 1, .string ⟨#[112]⟩, .int .i64 b, .slice none 0 0, .string ⟨#[]⟩]
theorem knA_list (w : World) (t : TypeId) : ListAt (w.alloc (.cells (knCells 1 2) t)) (some ⟨w.heap.size, 0, none⟩) 3 knA := by
  intro _
  refine ⟨w.heap.size, 0, rfl, by simp, fun i hi => ?_⟩
  have small : ∀ n : Nat, n ≤ 8 → n ≤ maxLen := fun n h => by unfold maxLen; omega
  match i, hi with
  | 0, _ => exact ⟨by simp [go_sem, knA, knCells], by simp [go_sem, knA, knCells], by simp [go_sem, knA, knCells], by simp [go_sem, knA, knCells], by simp [go_sem, knA, knCells], ⟨by simp [knA], small _ (by decide), small _ (by decide), fun j hj => absurd hj (by simp [knA])⟩⟩
  | 1, _ => exact ⟨by simp [go_sem, knA, knCells], by simp [go_sem, knA, knCells], by simp [go_sem, knA, knCells], by simp [go_sem, knA, knCells], by simp [go_sem, knA, knCells], ⟨by simp [knA], small _ (by decide), small _ (by decide), fun j hj => absurd hj (by simp [knA])⟩⟩
  | 2, _ => exact ⟨by simp [go_sem, knA, knCells], by simp [go_sem, knA, knCells], by simp [go_sem, knA, knCells], by simp [go_sem, knA, knCells], by simp [go_sem, knA, knCells], ⟨by simp [knA], small _ (by decide), small _ (by decide), fun j hj => absurd hj (by simp [knA])⟩⟩
theorem knB_list (w : World) (t : TypeId) : ListAt (w.alloc (.cells (knCells 2 1) t)) (some ⟨w.heap.size, 0, none⟩) 3 knB := by
  intro _
  refine ⟨w.heap.size, 0, rfl, by simp, fun i hi => ?_⟩
  have small : ∀ n : Nat, n ≤ 8 → n ≤ maxLen := fun n h => by unfold maxLen; omega
  match i, hi with
  | 0, _ => exact ⟨by simp [go_sem, knB, knCells], by simp [go_sem, knB, knCells], by simp [go_sem, knB, knCells], by simp [go_sem, knB, knCells], by simp [go_sem, knB, knCells], ⟨by simp [knB], small _ (by decide), small _ (by decide), fun j hj => absurd hj (by simp [knB])⟩⟩
  | 1, _ => exact ⟨by simp [go_sem, knB, knCells], by simp [go_sem, knB, knCells], by simp [go_sem, knB, knCells], by simp [go_sem, knB, knCells], by simp [go_sem, knB, knCells], ⟨by simp [knB], small _ (by decide), small _ (by decide), fun j hj => absurd hj (by simp [knB])⟩⟩
  | 2, _ => exact ⟨by simp [go_sem, knB, knCells], by simp [go_sem, knB, knCells], by simp [go_sem, knB, knCells], by simp [go_sem, knB, knCells], by simp [go_sem, knB, knCells], ⟨by simp [knB], small _ (by decide), small _ (by decide), fun j hj => absurd hj (by simp [knB])⟩⟩
theorem knA_out : (checkOut (mayB knA) 3).1 = 0 := by decide +kernel
theorem kn_diffE : diffE (madeR knA 3) knB 3 = (0, 0) := by decide +kernel
def knP : Pat := ⟨2, 3, 1, 2, 0, ⟨#[]⟩, ⟨#[]⟩, ⟨#[]⟩⟩
theorem kn_diffP : diffP (madeR knA 3) 3 knB 3 = [knP] := by kernel_rfl
def knR : List RN := [rnOf knA 0, rnOf knA 2, rnOf knA 1]
theorem kn_did : didP (madeR knA 3) knP = knR := by kernel_rfl
theorem kn_wid : widP knR 3 0 = [1, 3, 2] := by kernel_rfl
theorem kn_walk : walkP knR 3 0 0 = [(0, 0), (1, 1), (2, 1)] := by kernel_rfl
theorem kn_can : canP (madeR knA 3) 3 knP = true := by
  have hW : ¬ WithinP (madeR knA 3) 1 3 := by
    rintro ⟨m, e⟩
    have h1 : upP (madeR knA 3) 1 = 0 := by kernel_rfl
    cases m with
    | zero => cases e
    | succ m => rw [upN, h1, upN_zero] at e; cases e
  unfold canP
  rw [if_neg (by decide), if_pos (by decide)]
  unfold insB
  have hd : ∀ i : Decidable (WithinP (madeR knA 3) knP.par knP.id), @decide _ i = false := fun i => decide_eq_false hW
  rw [hd]
  decide +kernel
def patZ : Pat := ⟨0, 0, 0, 0, 0, ⟨#[]⟩, ⟨#[]⟩, ⟨#[]⟩⟩
def patAt (P : List Pat) (i : Nat) : Pat := P.getD i patZ
theorem patsL_get (P : List Pat) : ∀ j, j < P.length * 8 → (patsL P)[j]? = some (patsCell (patAt P) j) := by
  induction P with
  | nil => intro j hj; simp at hj
  | cons x P ih =>
    intro j hj
    have e : patsL (x :: P) = x.cells ++ patsL P := by unfold patsL; rw [List.flatMap_cons]
    rw [e]
    by_cases h8 : j < 8
    · rw [List.getElem?_append_left (by show j < 8; exact h8)]
      match j, h8 with
      | 0, _ => rfl
      | 1, _ => rfl
      | 2, _ => rfl
      | 3, _ => rfl
      | 4, _ => rfl
      | 5, _ => rfl
      | 6, _ => rfl
      | 7, _ => rfl
    · rw [List.getElem?_append_right (by show 8 ≤ j; omega)]
      have e2 : j - x.cells.length = j - 8 := rfl
      rw [e2, ih (j - 8) (by simp at hj; omega)]
      unfold patsCell
      have e3 : j / 8 = (j - 8) / 8 + 1 := by omega
      have e4 : (j - 8) % 8 = j % 8 := by omega
      rw [e3, e4]
      rfl
theorem pats_row {w : World} {B : Nat} {ao : Option Addr} {n c : Nat} {P : List Pat} (h : w.ownsRow B 43 8 (.slice ao n c) n (patsL P)) (hn : n = P.length) : PListAt w ao n (patAt P) := fun h0 => by
  rcases h.2 with ⟨e, e0⟩ | ⟨g, cap, cur, e, hb, hg, _⟩
  · omega
  · simp at e
    obtain ⟨rfl, rfl⟩ := e
    refine ⟨g, 0, rfl, (Array.getElem?_eq_some_iff.1 hg).1, fun j hj => ?_⟩
    rw [Nat.zero_add, h.cellAt j hj, patsL_get P j (by omega)]
end Go.Proofs.Ytobgcaemnpkbmaa
