/- Pdb Pdc Dok AttrsMk -/
import Derived.Test.YtobgcaemnpkbmaaGreatD30
import Derived.Test.YtobgcaemnpkbmaaGreatD03
namespace Go.Proofs.YtobgcaemnpkbmaaGreat
open Go.RowKit
theorem DocOk.small {R : List RN} {last : Int} (h : DocOk R last) (hl : last ≤ 4611686018427387904) : ∀ n, n ∈ R → I64 n.id := fun n hn => by
  have h1 := h.ids.pos n hn
  have h2 := h.top n hn
  unfold I64
  omega
theorem DocOk.tops {R : List RN} {last : Int} (h : DocOk R last) : ∀ n, n ∈ R → n.id ≤ last ∧ 0 ≤ n.par ∧ n.par ≤ last := fun n hn => by
  obtain ⟨rk, hU⟩ := h.up
  refine ⟨h.top n hn, ?_⟩
  have hl := h.last_pos
  rcases hU.par n hn with e | ⟨m, hm, e⟩
  · omega
  · have h1 := h.ids.pos m hm
    have h2 := h.top m hm
    omega
theorem name_size {s : ByteArray} (h : nameB s = true) : s.size ≤ 8 := by
  unfold nameB at h
  simp at h
  omega
theorem text20 (s : ByteArray) : decide ((s.size : Int) ≤ 20) = textB s := by
  unfold textB
  by_cases h : s.size ≤ 20
  · rw [decide_eq_true h, decide_eq_true (by omega)]
  · rw [decide_eq_false h, decide_eq_false (by omega)]
theorem has_hit {n : RN} {x : Pat} (hs : Rises n.ats) : hasB n x = hitP n.ats x.name := by
  unfold hasB
  rw [unsetP_pos hs]
  cases hh : hitP n.ats x.name with
  | false => simp
  | true =>
    have hp : posP n.ats x.name < n.ats.length := by unfold hitP at hh; simp only [Bool.and_eq_true, decide_eq_true_eq] at hh; exact hh.1
    rw [if_pos rfl]
    refine decide_eq_true ?_
    rw [List.length_append, List.length_take, List.length_drop]
    omega
theorem bytes_same {a b : ByteArray} (h : sameB a b = true) : a = b := by
  have h := sameB_iff.1 h
  rw [ByteArray.toList_eq, ByteArray.toList_eq] at h
  cases a; cases b
  exact congrArg ByteArray.mk (Array.toList_inj.1 h)
theorem Fine.hit {R : List RN} (hF : Fine R) {n : RN} (hn : n ∈ R) {nm : ByteArray} (hh : hitP n.ats nm = true) : nameB nm = true ∧ n.tag.toList.isEmpty = false := by
  unfold hitP at hh
  simp only [Bool.and_eq_true, decide_eq_true_eq] at hh
  obtain ⟨hp, hs⟩ := hh
  have ha : attAt n.ats (posP n.ats nm) = n.ats[posP n.ats nm] := by unfold attAt; simp [hp]
  rw [ha] at hs
  obtain ⟨h1, h2⟩ := hF n hn _ (List.getElem_mem hp)
  have e : (n.ats[posP n.ats nm]).1 = nm := bytes_same hs
  rw [e] at h1
  exact ⟨h1, h2⟩
section
variable (ρ : Roles) (nb : Int → Nat) (mb : Nat) (w : World) (q : Nat) (R : List RN) (last : Int) (h : Dom ρ nb mb (some (nb 1)) w q R last) (hok : DocOk R last)
include h hok
theorem pc_create (hl : last ≤ 4611686018427387904) (id pa bf ky : Int) (tg nm tx : ByteArray) (hx : Pat.Ok ⟨1, id, pa, bf, ky, tg, nm, tx⟩) (hp : pa = 0) (hb : bf = 0) (hn : nm.toList.isEmpty = true) :
    Calls Tryz.prog 86 #[.pointer (some ⟨q, 0, none⟩), .agg #[.int .i64 1, .int .i64 id, .int .i64 pa, .int .i64 bf, .int .i64 ky, .string tg, .string nm, .string tx]] w fun e w' => ∃ b, e = .returned (.bool b) ∧ PPost ρ nb mb w q R last ⟨1, id, pa, bf, ky, tg, nm, tx⟩ b w' := by
  have hc : canP R last ⟨1, id, pa, bf, ky, tg, nm, tx⟩ = (oneB (nodOf tg ky tx) && (id == last + 1) && decide (R.length < 800)) := by
    show createB R.length last ⟨1, id, pa, bf, ky, tg, nm, tx⟩ = _
    subst hp hb
    simp [createB, hn]
  have hl0 := hok.last_pos
  by_cases hid : id = last + 1
  · by_cases hm : R.length < 800
    · have fin : ∀ (nb' : Int → Nat) (ρ' : Roles) (w' : World), (∀ i, i ≠ last + 1 → nb' i = nb i) → Wrote ρ ρ' w w' → Dom ρ' nb' mb (some (nb 1)) w' q (R ++ [{ id := last + 1, par := 0, tag := tg, key := ky, text := tx, ats := [], ao := none, an := 0, ac := 0 }]) (last + 1) → oneB (nodOf tg ky tx) = true → PPost ρ nb mb w q R last ⟨1, id, pa, bf, ky, tg, nm, tx⟩ true w' := fun nb' ρ' w' h1 h2 h3 h4 => by
        refine ⟨by rw [hc, h4, hid]; simp [hm], nb', ρ', h2, h1, ?_⟩
        rw [h1 1 (by omega), if_pos rfl, if_pos rfl]
        have e1 : didP R ⟨1, id, pa, bf, ky, tg, nm, tx⟩ = R ++ [{ id := last + 1, par := 0, tag := tg, key := ky, text := tx, ats := [], ao := none, an := 0, ac := 0 }] := by
          rw [← hid]; rfl
        have e2 : lastP last ⟨1, id, pa, bf, ky, tg, nm, tx⟩ = last + 1 := by rw [← hid]; rfl
        rw [e1, e2]
        exact h3
      cases hel : elB (nodOf tg ky tx) with
      | true =>
        have h8 : tg.size ≤ 8 := name_size (by have := hel; unfold elB at this; simp only [Bool.and_eq_true] at this; exact this.1.1.1)
        have h0 : tx.size = 0 := by
          have := hel
          unfold elB at this
          simp only [Bool.and_eq_true] at this
          have h2 : tx.toList = [] := List.isEmpty_iff.1 this.1.1.2
          have h3 : tx.toList.length = tx.size := by rw [ByteArray.toList_eq, Array.length_toList]; rfl
          rw [h2] at h3
          exact h3.symm
        refine (create_elem ρ nb mb _ w q R last h 1 id pa bf ky tg nm tx (by omega) hl hx.tag hx.text hm hok.ids hok.tops (by omega) (by omega) hid hel).mono ?_
        rintro e w' ⟨rfl, nb', ρ', h1, _, h3, h4⟩
        exact ⟨true, rfl, fin nb' ρ' w' h1 h3 h4 (by unfold oneB; rw [hel]; rfl)⟩
      | false =>
        cases htn : txB (nodOf tg ky tx) with
        | true =>
          have h0 : tg.size = 0 := by
            have := htn
            unfold txB at this
            simp only [Bool.and_eq_true] at this
            have h2 : tg.toList = [] := List.isEmpty_iff.1 this.1.1.1
            have h3 : tg.toList.length = tg.size := by rw [ByteArray.toList_eq, Array.length_toList]; rfl
            rw [h2] at h3
            exact h3.symm
          have h20 : tx.size ≤ 20 := by
            have := htn
            unfold txB textB at this
            simp only [Bool.and_eq_true, decide_eq_true_eq] at this
            exact this.2
          refine (create_text ρ nb mb _ w q R last h 1 id pa bf ky tg nm tx (by omega) hl hx.tag hx.text hm hok.ids hok.tops (by omega) (by omega) hid hel htn).mono ?_
          rintro e w' ⟨rfl, nb', ρ', h1, _, h3, h4⟩
          exact ⟨true, rfl, fin nb' ρ' w' h1 h3 h4 (by unfold oneB; rw [htn, Bool.or_true])⟩
        | false =>
          refine (create_bad ρ nb mb _ w q R last h 1 id pa bf ky tg nm tx (by omega) hl hx.tag hx.text hm hid hel htn).mono ?_
          rintro e w' ⟨rfl, hb'⟩
          exact ⟨false, rfl, PPost.no h (by rw [hc]; unfold oneB; rw [hel, htn]; rfl) hb'⟩
    · subst hid
      refine (create_many ρ nb mb _ w q R last h 1 pa bf ky tg nm tx (by omega) hl (by omega)).mono ?_
      rintro e w' ⟨rfl, hb'⟩
      exact ⟨false, rfl, PPost.no h (by rw [hc]; simp [hm]) hb'⟩
  · refine (create_id ρ nb mb _ w q R last h 1 id pa bf ky tg nm tx (by omega) hl hid).mono ?_
    rintro e w' ⟨rfl, hb'⟩
    exact ⟨false, rfl, PPost.no h (by rw [hc]; simp [hid]) hb'⟩
theorem pc_remove (hl : last ≤ 4611686018427387904) (id pa bf ky : Int) (tg nm tx : ByteArray) (hid : I64 id) (hp : pa = 0) (hb : bf = 0) (hk : ky = 0) (ht : tg.toList.isEmpty = true) (hn : nm.toList.isEmpty = true) (hx : tx.toList.isEmpty = true) :
    Calls Tryz.prog 88 #[.pointer (some ⟨q, 0, none⟩), .agg #[.int .i64 3, .int .i64 id, .int .i64 pa, .int .i64 bf, .int .i64 ky, .string tg, .string nm, .string tx]] w fun e w' => ∃ b, e = .returned (.bool b) ∧ PPost ρ nb mb w q R last ⟨3, id, pa, bf, ky, tg, nm, tx⟩ b w' := by
  have hc : canP R last ⟨3, id, pa, bf, ky, tg, nm, tx⟩ = (decide (0 ≤ atP R id) && !(id == 1)) := by
    subst hp hb hk
    simp [canP, remB, ht, hn, hx]
  obtain ⟨nr, hnr, hr1, _⟩ := hok.root
  obtain ⟨r, hr, rfl⟩ := List.getElem_of_mem hnr
  rcases at_two hok.ids id with ⟨k, hk', hki, hat⟩ | ⟨hno, hat⟩
  · by_cases h1 : id = 1
    · subst h1
      refine (prem_root ρ nb mb w q R last h 3 pa bf ky tg nm tx r hr hr1).mono ?_
      rintro e w' ⟨rfl, hb'⟩
      exact ⟨false, rfl, PPost.no h (by rw [hc]; simp) hb'⟩
    · refine (prem_ok ρ nb mb w q R last h 3 id pa bf ky tg nm tx hid hok.ids hok.up (hok.small hl) k hk' hki h1 r hr hr1).mono ?_
      rintro e w' ⟨rfl, ρ', h2, h3⟩
      refine ⟨true, rfl, PPost.ok (by rw [hc, hat]; simp [h1]) ?_ (lastP_not (by simp)) h2 h3⟩
      show rmP R (walkP R R.length (atP R id).toNat 0) = _
      rw [hat, Int.toNat_natCast]
  · refine (prem_none ρ nb mb w q R last h 3 id pa bf ky tg nm tx hid hno).mono ?_
    rintro e w' ⟨rfl, hb'⟩
    exact ⟨false, rfl, PPost.no h (by rw [hc, hat]; simp) hb'⟩
theorem pc_write (id pa bf ky : Int) (tg nm tx : ByteArray) (hx : Pat.Ok ⟨6, id, pa, bf, ky, tg, nm, tx⟩) (hid : I64 id) (hp : pa = 0) (hb : bf = 0) (hk : ky = 0) (ht : tg.toList.isEmpty = true) (hn : nm.toList.isEmpty = true) :
    Calls Tryz.prog 91 #[.pointer (some ⟨q, 0, none⟩), .agg #[.int .i64 6, .int .i64 id, .int .i64 pa, .int .i64 bf, .int .i64 ky, .string tg, .string nm, .string tx]] w fun e w' => ∃ b, e = .returned (.bool b) ∧ PPost ρ nb mb w q R last ⟨6, id, pa, bf, ky, tg, nm, tx⟩ b w' := by
  rcases at_two hok.ids id with ⟨k, hk', hki, hat⟩ | ⟨hno, hat⟩
  · have hof : ofP R ⟨6, id, pa, bf, ky, tg, nm, tx⟩ = R[k] := by unfold ofP; rw [hat, Int.toNat_natCast, nth_lt hk']
    have hc : canP R last ⟨6, id, pa, bf, ky, tg, nm, tx⟩ = (textB tx && R[k].tag.toList.isEmpty) := by
      subst hp hb hk
      simp [canP, wriB, ht, hn, hof, hat, text20]
    have h64 : I64 R[k].id := by rw [hki]; exact hid
    cases htag : R[k].tag.toList.isEmpty with
    | false =>
      refine (write_elem ρ nb mb _ w q R last h 6 id pa bf ky tg nm tx k hk' h64 hki htag).mono ?_
      rintro e w' ⟨rfl, hb'⟩
      exact ⟨false, rfl, PPost.no h (by rw [hc, htag, Bool.and_false]) hb'⟩
    | true =>
      cases htx : textB tx with
      | false =>
        refine (write_long ρ nb mb _ w q R last h 6 id pa bf ky tg nm tx k hk' h64 hki htag hx.text htx).mono ?_
        rintro e w' ⟨rfl, hb'⟩
        exact ⟨false, rfl, PPost.no h (by rw [hc, htx, Bool.false_and]) hb'⟩
      | true =>
        have h20 : tx.size ≤ 20 := by unfold textB at htx; simpa using htx
        refine (write_ok ρ nb mb _ w q R last h 6 id pa bf ky tg nm tx k hk' h64 hki hok.ids htag hx.text (by omega) htx).mono ?_
        rintro e w' ⟨rfl, ρ', h2, h3⟩
        refine ⟨true, rfl, PPost.ok (by rw [hc, htx, htag]; rfl) ?_ (lastP_not (by simp)) h2 h3⟩
        show R.set (atP R id).toNat { ofP R ⟨6, id, pa, bf, ky, tg, nm, tx⟩ with text := tx } = _
        rw [hof, hat, Int.toNat_natCast]
  · refine (write_none ρ nb mb _ w q R last h 6 id pa bf ky tg nm tx hid hno).mono ?_
    rintro e w' ⟨rfl, hb'⟩
    exact ⟨false, rfl, PPost.no h (by unfold canP; simp [hat]) hb'⟩
theorem pc_unset (hF : Fine R) (id pa bf ky : Int) (tg nm tx : ByteArray) (hid : I64 id) (hp : pa = 0) (hb : bf = 0) (hk : ky = 0) (ht : tg.toList.isEmpty = true) (hx : tx.toList.isEmpty = true) :
    Calls Tryz.prog 90 #[.pointer (some ⟨q, 0, none⟩), .agg #[.int .i64 5, .int .i64 id, .int .i64 pa, .int .i64 bf, .int .i64 ky, .string tg, .string nm, .string tx]] w fun e w' => ∃ b, e = .returned (.bool b) ∧ PPost ρ nb mb w q R last ⟨5, id, pa, bf, ky, tg, nm, tx⟩ b w' := by
  rcases at_two hok.ids id with ⟨k, hk', hki, hat⟩ | ⟨hno, hat⟩
  · have hof : ofP R ⟨5, id, pa, bf, ky, tg, nm, tx⟩ = R[k] := by unfold ofP; rw [hat, Int.toNat_natCast, nth_lt hk']
    obtain ⟨av, kv, hP⟩ := h.node _ (List.getElem_mem hk')
    have h20 : textB tx = true := by
      have h2 : tx.toList = [] := List.isEmpty_iff.1 hx
      have h3 : tx.toList.length = tx.size := by rw [ByteArray.toList_eq, Array.length_toList]; rfl
      rw [h2] at h3
      unfold textB
      exact decide_eq_true (by rw [← h3]; decide)
    have hc : canP R last ⟨5, id, pa, bf, ky, tg, nm, tx⟩ = (nameB nm && !R[k].tag.toList.isEmpty && hitP R[k].ats nm) := by
      have hh := has_hit (x := ⟨5, id, pa, bf, ky, tg, nm, tx⟩) hP.rise
      subst hp hb hk
      simp [canP, unsB, ht, hx, hof, hat, text20, h20, hh]
    have h64 : I64 R[k].id := by rw [hki]; exact hid
    cases hh : hitP R[k].ats nm with
    | false =>
      refine (unset_not ρ nb mb _ w q R last h 5 id pa bf ky tg nm tx k hk' h64 hki hh).mono ?_
      rintro e w' ⟨rfl, hb'⟩
      exact ⟨false, rfl, PPost.no h (by rw [hc, hh, Bool.and_false]) hb'⟩
    | true =>
      obtain ⟨hn, htag⟩ := hF.hit (List.getElem_mem hk') hh
      refine (unset_ok ρ nb mb _ w q R last h 5 id pa bf ky tg nm tx k hk' h64 hki hok.ids hh).mono ?_
      rintro e w' ⟨rfl, ρ', h2, h3⟩
      refine ⟨true, rfl, PPost.ok (by rw [hc, hh, hn, htag]; rfl) ?_ (lastP_not (by simp)) h2 h3⟩
      show R.set (atP R id).toNat { ofP R ⟨5, id, pa, bf, ky, tg, nm, tx⟩ with ats := unsetP (ofP R ⟨5, id, pa, bf, ky, tg, nm, tx⟩).ats nm } = _
      rw [hof, hat, Int.toNat_natCast]
  · refine (unset_none ρ nb mb _ w q R last h 5 id pa bf ky tg nm tx hid hno).mono ?_
    rintro e w' ⟨rfl, hb'⟩
    exact ⟨false, rfl, PPost.no h (by unfold canP; simp [hat]) hb'⟩
theorem pc_set (id pa bf ky : Int) (tg nm tx : ByteArray) (hx : Pat.Ok ⟨4, id, pa, bf, ky, tg, nm, tx⟩) (hid : I64 id) (hp : pa = 0) (hb : bf = 0) (hk : ky = 0) (ht : tg.toList.isEmpty = true) :
    Calls Tryz.prog 89 #[.pointer (some ⟨q, 0, none⟩), .agg #[.int .i64 4, .int .i64 id, .int .i64 pa, .int .i64 bf, .int .i64 ky, .string tg, .string nm, .string tx]] w fun e w' => ∃ b, e = .returned (.bool b) ∧ PPost ρ nb mb w q R last ⟨4, id, pa, bf, ky, tg, nm, tx⟩ b w' := by
  rcases at_two hok.ids id with ⟨k, hk', hki, hat⟩ | ⟨hno, hat⟩
  · have hof : ofP R ⟨4, id, pa, bf, ky, tg, nm, tx⟩ = R[k] := by unfold ofP; rw [hat, Int.toNat_natCast, nth_lt hk']
    obtain ⟨av, kv, hP⟩ := h.node _ (List.getElem_mem hk')
    have hc : canP R last ⟨4, id, pa, bf, ky, tg, nm, tx⟩ = (nameB nm && !R[k].tag.toList.isEmpty && textB tx && (hitP R[k].ats nm || decide (R[k].ats.length < 5))) := by
      have hh := has_hit (x := ⟨4, id, pa, bf, ky, tg, nm, tx⟩) hP.rise
      subst hp hb hk
      simp [canP, setB, ht, hof, hat, text20, hh]
    have h64 : I64 R[k].id := by rw [hki]; exact hid
    have hR : didP R ⟨4, id, pa, bf, ky, tg, nm, tx⟩ = R.set k { R[k] with ats := setP R[k].ats nm tx } := by
      show R.set (atP R id).toNat { ofP R ⟨4, id, pa, bf, ky, tg, nm, tx⟩ with ats := setP (ofP R ⟨4, id, pa, bf, ky, tg, nm, tx⟩).ats nm tx } = _
      rw [hof, hat, Int.toNat_natCast]
    cases htag : R[k].tag.toList.isEmpty with
    | true =>
      refine (set_text ρ nb mb _ w q R last h 4 id pa bf ky tg nm tx k hk' h64 hki htag).mono ?_
      rintro e w' ⟨rfl, hb'⟩
      exact ⟨false, rfl, PPost.no h (by rw [hc, htag]; simp) hb'⟩
    | false =>
      cases hnm : nameB nm with
      | false =>
        refine (set_name ρ nb mb _ w q R last h 4 id pa bf ky tg nm tx k hk' h64 hki htag hx.name hnm).mono ?_
        rintro e w' ⟨rfl, hb'⟩
        exact ⟨false, rfl, PPost.no h (by rw [hc, hnm]; simp) hb'⟩
      | true =>
        have h8 := name_size hnm
        cases htx : textB tx with
        | false =>
          refine (set_long ρ nb mb _ w q R last h 4 id pa bf ky tg nm tx k hk' h64 hki htag hx.name hnm hx.text htx).mono ?_
          rintro e w' ⟨rfl, hb'⟩
          exact ⟨false, rfl, PPost.no h (by rw [hc, htx]; simp) hb'⟩
        | true =>
          have h20 : tx.size ≤ 20 := by unfold textB at htx; simpa using htx
          cases hh : hitP R[k].ats nm with
          | true =>
            refine (set_hit ρ nb mb _ w q R last h 4 id pa bf ky tg nm tx k hk' h64 hki hok.ids htag hx.name hnm hx.text htx (by omega) hh).mono ?_
            rintro e w' ⟨rfl, ρ', h2, h3⟩
            exact ⟨true, rfl, PPost.ok (by rw [hc, htag, hnm, htx, hh]; rfl) hR (lastP_not (by simp)) h2 h3⟩
          | false =>
            by_cases h5 : R[k].ats.length < 5
            · refine (set_new ρ nb mb _ w q R last h 4 id pa bf ky tg nm tx k hk' h64 hki hok.ids htag hx.name hnm hx.text htx (by omega) (by omega) hh h5).mono ?_
              rintro e w' ⟨rfl, ρ', h2, h3⟩
              exact ⟨true, rfl, PPost.ok (by rw [hc, htag, hnm, htx, hh]; simp [h5]) hR (lastP_not (by simp)) h2 h3⟩
            · refine (set_full ρ nb mb _ w q R last h 4 id pa bf ky tg nm tx k hk' h64 hki htag hx.name hnm hx.text htx hh (by omega)).mono ?_
              rintro e w' ⟨rfl, hb'⟩
              exact ⟨false, rfl, PPost.no h (by rw [hc, hh]; simp [h5]) hb'⟩
  · refine (set_none ρ nb mb _ w q R last h 4 id pa bf ky tg nm tx hid hno).mono ?_
    rintro e w' ⟨rfl, hb'⟩
    exact ⟨false, rfl, PPost.no h (by unfold canP; simp [hat]) hb'⟩
theorem pc_insert (id pa bf ky : Int) (tg nm tx : ByteArray) (hid : I64 id) (hpa : I64 pa) (hbf : I64 bf) (hk : ky = 0) (ht : tg.toList.isEmpty = true) (hn : nm.toList.isEmpty = true) (hx : tx.toList.isEmpty = true) :
    Calls Tryz.prog 87 #[.pointer (some ⟨q, 0, none⟩), .agg #[.int .i64 2, .int .i64 id, .int .i64 pa, .int .i64 bf, .int .i64 ky, .string tg, .string nm, .string tx]] w fun e w' => ∃ b, e = .returned (.bool b) ∧ PPost ρ nb mb w q R last ⟨2, id, pa, bf, ky, tg, nm, tx⟩ b w' := by
  classical
  obtain ⟨rk, hU⟩ := hok.up
  obtain ⟨nr, hnr, hr1, _⟩ := hok.root
  obtain ⟨r, hr, rfl⟩ := List.getElem_of_mem hnr
  have hno0 : ∀ n, n ∈ R → n.id ≠ 0 := fun n hn => by have := hok.ids.pos n hn; omega
  have hc : canP R last ⟨2, id, pa, bf, ky, tg, nm, tx⟩ = (decide (0 ≤ atP R id) && (!(id == 1) && decide (0 ≤ atP R pa) && !(nth R (atP R pa).toNat).tag.toList.isEmpty && (!(bf != 0) || (decide (0 ≤ atP R bf) && !((nth R (atP R bf).toNat).par != pa) && !(bf == id))) && !decide (WithinP R pa id))) := by
    subst hk
    unfold canP insB
    simp [ht, hn, hx]
  rcases at_two hok.ids id with ⟨k, hk', hki, hat⟩ | ⟨hno, hat⟩
  · have h64 : I64 R[k].id := by rw [hki]; exact hid
    by_cases h1 : id = 1
    · subst h1
      refine (pins_root ρ nb mb w q R last h 2 pa bf ky tg nm tx r hr hr1 hpa _ rfl).mono ?_
      rintro e w' ⟨rfl, hb'⟩
      exact ⟨false, rfl, PPost.no h (by rw [hc]; simp) hb'⟩
    · have hk1 : R[k].id ≠ 1 := by rw [hki]; exact h1
      rcases at_two hok.ids pa with ⟨t, ht', hti, hatp⟩ | ⟨hnop, hatp⟩
      · have h64t : I64 R[t].id := by rw [hti]; exact hpa
        have hnt : (nth R (atP R pa).toNat) = R[t] := by rw [hatp, Int.toNat_natCast, nth_lt ht']
        cases htag : R[t].tag.toList.isEmpty with
        | true =>
          refine (pins_text ρ nb mb w q R last h 2 id pa bf ky tg nm tx k hk' h64 hki r hr hr1 hk1 t ht' h64t hti htag).mono ?_
          rintro e w' ⟨rfl, hb'⟩
          exact ⟨false, rfl, PPost.no h (by rw [hc, hnt, htag]; simp) hb'⟩
        | false =>
          cases hin : inP R (rk R[t].id + 1) R[t].id R[k].id with
          | true =>
            have hw : WithinP R pa id := by
              have := (inP_iff hU hok.ids (hno0 _ (List.getElem_mem hk')) ⟨R[t], List.getElem_mem ht', rfl⟩).1 hin
              rwa [hti, hki] at this
            refine (pins_in ρ nb mb w q R last h 2 id pa bf ky tg nm tx hok.ids rk hU k hk' h64 hki r hr hr1 hk1 t ht' h64t hti htag hin).mono ?_
            rintro e w' ⟨rfl, hb'⟩
            exact ⟨false, rfl, PPost.no h (by rw [hc, decide_eq_true hw]; simp) hb'⟩
          | false =>
            have hw : ¬ WithinP R pa id := by
              have := (inP_not hU hok.ids (hno0 _ (List.getElem_mem hk')) ⟨R[t], List.getElem_mem ht', rfl⟩).1 hin
              rwa [hti, hki] at this
            have hc2 : canP R last ⟨2, id, pa, bf, ky, tg, nm, tx⟩ = (!(bf != 0) || (decide (0 ≤ atP R bf) && !((nth R (atP R bf).toNat).par != pa) && !(bf == id))) := by
              rw [hc, hnt, htag, decide_eq_false hw, hat, hatp]
              simp [h1]
            have hne : R[t].id ≠ R[k].id := fun e => hw ⟨0, by rw [← hti, e, hki]; rfl⟩
            have hof : ofP R ⟨2, id, pa, bf, ky, tg, nm, tx⟩ = R[k] := by unfold ofP; rw [hat, Int.toNat_natCast, nth_lt hk']
            have hR : didP R ⟨2, id, pa, bf, ky, tg, nm, tx⟩ = insP R { R[k] with par := R[t].id } k bf := by
              show insP R { ofP R ⟨2, id, pa, bf, ky, tg, nm, tx⟩ with par := pa } (atP R id).toNat bf = _
              rw [hof, hat, Int.toNat_natCast, hti]
            by_cases hb0 : bf = 0
            · subst hb0
              refine (pins_ok0 ρ nb mb w q R last h 2 id pa ky tg nm tx hok.ids rk hU k hk' h64 hki r hr hr1 hk1 t ht' h64t hti htag hin hne hno0).mono ?_
              rintro e w' ⟨rfl, ρ', h2, h3⟩
              exact ⟨true, rfl, PPost.ok (by rw [hc2]; rfl) hR (lastP_not (by simp)) h2 h3⟩
            · rcases at_two hok.ids bf with ⟨b, hb', hbi, hatb⟩ | ⟨hnob, hatb⟩
              · have h64b : I64 R[b].id := by rw [hbi]; exact hbf
                have hnb : (nth R (atP R bf).toNat) = R[b] := by rw [hatb, Int.toNat_natCast, nth_lt hb']
                by_cases hbk : R[b].id = R[k].id
                · have e : bf = id := by rw [← hbi, hbk, hki]
                  subst e
                  refine (pins_self ρ nb mb w q R last h 2 bf pa ky tg nm tx hok.ids rk hU k hk' h64 hki r hr hr1 hk1 t ht' h64t hti htag hin (hno0 _ (List.getElem_mem hk'))).mono ?_
                  rintro e w' ⟨rfl, hb'⟩
                  exact ⟨false, rfl, PPost.no h (by rw [hc2]; simp [hb0]) hb'⟩
                · have hbne : bf ≠ id := fun e => hbk (by rw [hbi, hki, e])
                  by_cases hbp : R[b].par = R[t].id
                  · refine (pins_ok1 ρ nb mb w q R last h 2 id pa bf ky tg nm tx hok.ids rk hU k hk' h64 hki r hr hr1 hk1 t ht' h64t hti htag hin hne b hb' h64b hbi hbk (hno0 _ (List.getElem_mem hb')) hbp).mono ?_
                    rintro e w' ⟨rfl, ρ', h2, h3⟩
                    rw [hbi] at h3
                    exact ⟨true, rfl, PPost.ok (by rw [hc2, hnb, hatb, hbp, hti]; simp [hbne]) hR (lastP_not (by simp)) h2 h3⟩
                  · refine (pins_nokid ρ nb mb w q R last h 2 id pa bf ky tg nm tx hok.ids rk hU k hk' h64 hki r hr hr1 hk1 t ht' h64t hti htag hin b hb' h64b hbi hbk (hno0 _ (List.getElem_mem hb')) hbp).mono ?_
                    rintro e w' ⟨rfl, hb'⟩
                    exact ⟨false, rfl, PPost.no h (by rw [hc2, hnb]; rw [hti] at hbp; simp [hb0, hbp]) hb'⟩
              · refine (pins_nobef ρ nb mb w q R last h 2 id pa bf ky tg nm tx hok.ids rk hU k hk' h64 hki r hr hr1 hk1 t ht' h64t hti htag hin hbf hb0 hnob).mono ?_
                rintro e w' ⟨rfl, hb'⟩
                exact ⟨false, rfl, PPost.no h (by rw [hc2, hatb]; simp [hb0]) hb'⟩
      · refine (pins_nopar ρ nb mb w q R last h 2 id pa bf ky tg nm tx k hk' h64 hki r hr hr1 hk1 hpa hnop).mono ?_
        rintro e w' ⟨rfl, hb'⟩
        exact ⟨false, rfl, PPost.no h (by rw [hc, hatp]; simp) hb'⟩
  · refine (pins_none ρ nb mb w q R last h 2 id pa bf ky tg nm tx hid hpa hno _ rfl).mono ?_
    rintro e w' ⟨rfl, hb'⟩
    exact ⟨false, rfl, PPost.no h (by rw [hc, hat]; simp) hb'⟩
end
end Go.Proofs.YtobgcaemnpkbmaaGreat
namespace Go.Proofs.YtobgcaemnpkbmaaGreat
open Go.RowKit
structure Pat.Ints (x : Pat) : Prop where
  id : I64 x.id
  par : I64 x.par
  bef : I64 x.bef
theorem can_need {R : List RN} {last : Int} {x : Pat} (h : canP R last x = true) : patB x (needP x) = true := by
  obtain ⟨kd, id, pa, bf, ky, tg, nm, tx⟩ := x
  unfold canP at h
  by_cases h1 : kd = 1
  · subst h1
    rw [need1]
    simp [createB] at h
    simp [h]
  by_cases h2 : kd = 2
  · subst h2
    rw [need2]
    simp [insB] at h
    simp [h]
  by_cases h3 : kd = 3
  · subst h3
    rw [need3]
    simp [remB] at h
    simp [h]
  by_cases h4 : kd = 4
  · subst h4
    rw [need4]
    simp [setB] at h
    simp [h]
  by_cases h5 : kd = 5
  · subst h5
    rw [need5]
    simp [unsB] at h
    simp [h]
  by_cases h6 : kd = 6
  · subst h6
    rw [need6]
    simp [wriB] at h
    simp [h]
  · simp [h1, h2, h3, h4, h5, h6] at h
theorem pdo_any (ρ : Roles) (nb : Int → Nat) (mb : Nat) (w : World) (q : Nat) (R : List RN) (last : Int) (h : Dom ρ nb mb (some (nb 1)) w q R last) (hok : DocOk R last) (hF : Fine R) (hl : last ≤ 4611686018427387904) (x : Pat) (hx : x.Ok) (hi : x.Ints) :
    Calls Tryz.prog 70 #[.pointer (some ⟨q, 0, none⟩), x.val] w fun e w' => ∃ b, e = .returned (.bool b) ∧ PPost ρ nb mb w q R last x b w' := by
  have hno : patB x (needP x) = false → canP R last x = false := fun e => by
    cases hc : canP R last x with
    | false => rfl
    | true => rw [can_need hc] at e; cases e
  obtain ⟨kd, id, pa, bf, ky, tg, nm, tx⟩ := x
  cases hs : patB ⟨kd, id, pa, bf, ky, tg, nm, tx⟩ (needP ⟨kd, id, pa, bf, ky, tg, nm, tx⟩) with
  | false =>
    refine (pdo_not q kd id pa bf ky tg nm tx w hs).mono ?_
    rintro e w' ⟨rfl, hb⟩
    exact ⟨false, rfl, PPost.no h (hno hs) hb⟩
  | true =>
    by_cases h1 : kd = 1
    · subst h1
      have hs' := hs
      rw [need1] at hs'
      simp only [Bool.and_eq_true, beq_iff_eq] at hs'
      refine pdo_create q id pa bf ky tg nm tx w hs _ fun w1 hb => ?_
      refine (pc_create ρ nb mb w1 q R last (h.below hb) hok hl id pa bf ky tg nm tx hx hs'.1.1 hs'.1.2 hs'.2).mono ?_
      rintro e w' ⟨b, e1, hp⟩
      exact ⟨b, e1, hp.after hb⟩
    by_cases h2 : kd = 2
    · subst h2
      have hs' := hs
      rw [need2] at hs'
      simp only [Bool.and_eq_true, beq_iff_eq] at hs'
      refine pdo_insert q id pa bf ky tg nm tx w hs _ fun w1 hb => ?_
      refine (pc_insert ρ nb mb w1 q R last (h.below hb) hok id pa bf ky tg nm tx hi.id hi.par hi.bef hs'.1.1.1 hs'.1.1.2 hs'.1.2 hs'.2).mono ?_
      rintro e w' ⟨b, e1, hp⟩
      exact ⟨b, e1, hp.after hb⟩
    by_cases h3 : kd = 3
    · subst h3
      have hs' := hs
      rw [need3] at hs'
      simp only [Bool.and_eq_true, beq_iff_eq] at hs'
      refine pdo_remove q id pa bf ky tg nm tx w hs _ fun w1 hb => ?_
      refine (pc_remove ρ nb mb w1 q R last (h.below hb) hok hl id pa bf ky tg nm tx hi.id hs'.1.1.1.1.1 hs'.1.1.1.1.2 hs'.1.1.1.2 hs'.1.1.2 hs'.1.2 hs'.2).mono ?_
      rintro e w' ⟨b, e1, hp⟩
      exact ⟨b, e1, hp.after hb⟩
    by_cases h4 : kd = 4
    · subst h4
      have hs' := hs
      rw [need4] at hs'
      simp only [Bool.and_eq_true, beq_iff_eq] at hs'
      refine pdo_set q id pa bf ky tg nm tx w hs _ fun w1 hb => ?_
      refine (pc_set ρ nb mb w1 q R last (h.below hb) hok id pa bf ky tg nm tx hx hi.id hs'.1.1.1 hs'.1.1.2 hs'.1.2 hs'.2).mono ?_
      rintro e w' ⟨b, e1, hp⟩
      exact ⟨b, e1, hp.after hb⟩
    by_cases h5 : kd = 5
    · subst h5
      have hs' := hs
      rw [need5] at hs'
      simp only [Bool.and_eq_true, beq_iff_eq] at hs'
      refine pdo_unset q id pa bf ky tg nm tx w hs _ fun w1 hb => ?_
      refine (pc_unset ρ nb mb w1 q R last (h.below hb) hok hF id pa bf ky tg nm tx hi.id hs'.1.1.1.1 hs'.1.1.1.2 hs'.1.1.2 hs'.1.2 hs'.2).mono ?_
      rintro e w' ⟨b, e1, hp⟩
      exact ⟨b, e1, hp.after hb⟩
    by_cases h6 : kd = 6
    · subst h6
      have hs' := hs
      rw [need6] at hs'
      simp only [Bool.and_eq_true, beq_iff_eq] at hs'
      refine pdo_write q id pa bf ky tg nm tx w hs _ fun w1 hb => ?_
      refine (pc_write ρ nb mb w1 q R last (h.below hb) hok id pa bf ky tg nm tx hx hi.id hs'.1.1.1.1 hs'.1.1.1.2 hs'.1.1.2 hs'.1.2 hs'.2).mono ?_
      rintro e w' ⟨b, e1, hp⟩
      exact ⟨b, e1, hp.after hb⟩
    · refine (pdo_other q kd id pa bf ky tg nm tx w hs h1 h2 h3 h4 h5 h6).mono ?_
      rintro e w' ⟨rfl, hb⟩
      exact ⟨false, rfl, PPost.no h (by unfold canP; simp [h1, h2, h3, h4, h5, h6]) hb⟩
theorem Fine.put {R : List RN} (hF : Fine R) {k : Nat} {n : RN} (h : ∀ a, a ∈ n.ats → nameB a.1 = true ∧ n.tag.toList.isEmpty = false) : Fine (R.set k n) := fun m hm => by
  rcases List.mem_or_eq_of_mem_set hm with hm | rfl
  · exact hF m hm
  · exact h
theorem Fine.did {R : List RN} {last : Int} {x : Pat} (hI : Ids R) (hF : Fine R) (hc : canP R last x = true) : Fine (didP R x) := by
  by_cases h1 : (x.kind == 1) = true
  · unfold didP
    rw [if_pos h1]
    intro m hm
    rcases List.mem_append.1 hm with hm | hm
    · exact hF m hm
    · rw [List.mem_singleton.1 hm]
      intro a ha
      cases ha
  · unfold canP at hc
    rw [if_neg h1] at hc
    simp only [Bool.and_eq_true, decide_eq_true_eq] at hc
    obtain ⟨⟨⟨hat, _⟩, _⟩, hc⟩ := hc
    obtain ⟨k, hk, hki, hatk⟩ : ∃ k, ∃ hk : k < R.length, R[k].id = x.id ∧ atP R x.id = (k : Int) := by
      rcases at_two hI x.id with h | ⟨_, h⟩
      · exact h
      · omega
    have hof : ofP R x = R[k] := by unfold ofP; rw [hatk, Int.toNat_natCast, nth_lt hk]
    have hFk := hF _ (List.getElem_mem hk)
    unfold didP
    rw [if_neg h1, hof, hatk, Int.toNat_natCast]
    by_cases h2 : (x.kind == 2) = true
    · rw [if_pos h2]
      rw [if_pos h2] at hc
      intro m hm
      have hb : x.bef = 0 ∨ ∃ i, i < R.length ∧ idAt R i = x.bef := by
        by_cases h0 : x.bef = 0
        · exact .inl h0
        · right
          unfold insB at hc
          simp [h0] at hc
          rcases at_two hI x.bef with ⟨b, hb, hbi, _⟩ | ⟨_, h⟩
          · exact ⟨b, hb, by rw [idAt_lt hb, hbi]⟩
          · omega
      rcases insP_mem hI hk hb m hm with hm | rfl
      · exact hF m hm
      · exact hFk
    rw [if_neg h2]
    rw [if_neg h2] at hc
    by_cases h3 : (x.kind == 3) = true
    · rw [if_pos h3]
      intro m hm
      exact hF m (rmTo_mem hm)
    rw [if_neg h3]
    rw [if_neg h3] at hc
    by_cases h6 : (x.kind == 6) = true
    · rw [if_pos h6]
      exact hF.put hFk
    rw [if_neg h6]
    rw [if_neg h6] at hc
    by_cases h4 : (x.kind == 4) = true
    · rw [if_pos h4]
      rw [if_pos h4, hof] at hc
      unfold setB at hc
      simp only [Bool.and_eq_true, Bool.not_eq_true'] at hc
      refine hF.put fun a ha => ?_
      rcases setP_mem ha with ha | rfl
      · exact hFk a ha
      · exact ⟨hc.2.1.1.1, hc.2.1.1.2⟩
    · rw [if_neg h4]
      exact hF.put fun a ha => hFk a (unsetP_mem ha)
theorem DocOk.bare {R : List RN} {last : Int} : DocOk (bareL R) last ↔ DocOk R last := by
  constructor
  · rintro ⟨h1, ⟨rk, h2⟩, h3, n, hn, h4, h5⟩
    obtain ⟨m, hm, rfl⟩ := bare_mem.1 hn
    exact ⟨bare_ids.1 h1, ⟨rk, bare_up.1 h2⟩, fun n hn => (h3 n.bare (bare_mem.2 ⟨n, hn, rfl⟩) : n.id ≤ last), m, hm, h4, h5⟩
  · rintro ⟨h1, ⟨rk, h2⟩, h3, n, hn, h4, h5⟩
    refine ⟨bare_ids.2 h1, ⟨rk, bare_up.2 h2⟩, fun n hn => ?_, n.bare, bare_mem.2 ⟨n, hn, rfl⟩, h4, h5⟩
    obtain ⟨m, hm, rfl⟩ := bare_mem.1 hn
    exact h3 m hm
end Go.Proofs.YtobgcaemnpkbmaaGreat
namespace Go.Proofs.YtobgcaemnpkbmaaGreat
open Go.RowKit
theorem DocOk.did {R : List RN} {last : Int} {x : Pat} (h : DocOk R last) (hc : canP R last x = true) : DocOk (didP R x) (lastP last x) := by
  classical
  have hI := h.ids
  obtain ⟨rk, hU⟩ := h.up
  by_cases h1 : (x.kind == 1) = true
  · unfold didP lastP
    rw [if_pos h1, if_pos h1]
    unfold canP at hc
    rw [if_pos h1] at hc
    unfold createB at hc
    simp only [Bool.and_eq_true, beq_iff_eq] at hc
    exact h.more (n := newRN x) (show last < x.id by omega) rfl
  · unfold canP at hc
    rw [if_neg h1] at hc
    simp only [Bool.and_eq_true, decide_eq_true_eq] at hc
    obtain ⟨⟨⟨hat, _⟩, _⟩, hc⟩ := hc
    obtain ⟨k, hk, hki, hatk⟩ : ∃ k, ∃ hk : k < R.length, R[k].id = x.id ∧ atP R x.id = (k : Int) := by
      rcases at_two hI x.id with h | ⟨_, h⟩
      · exact h
      · omega
    have hof : ofP R x = R[k] := by unfold ofP; rw [hatk, Int.toNat_natCast, nth_lt hk]
    unfold didP lastP
    rw [if_neg h1, if_neg h1, hof, hatk, Int.toNat_natCast]
    by_cases h2 : (x.kind == 2) = true
    · rw [if_pos h2]
      rw [if_pos h2] at hc
      unfold insB at hc
      simp only [Bool.and_eq_true, Bool.not_eq_true', decide_eq_true_eq, decide_eq_false_iff_not] at hc
      obtain ⟨⟨⟨⟨⟨_, hn1⟩, hpa⟩, _⟩, hbf⟩, hw⟩ := hc
      obtain ⟨t, ht, hti, _⟩ : ∃ k, ∃ hk : k < R.length, R[k].id = x.par ∧ atP R x.par = (k : Int) := by
        rcases at_two hI x.par with h | ⟨_, h⟩
        · exact h
        · omega
      have hpx : ∃ n, n ∈ R ∧ n.id = x.par := ⟨R[t], List.getElem_mem ht, hti⟩
      have hpos := hI.pos _ (List.getElem_mem hk)
      refine h.ins hU hk (by rw [hki]; simpa using hn1) ?_ hpx ((inP_not hU hI (by omega) hpx).2 (by rw [hki]; exact hw))
      by_cases h0 : x.bef = 0
      · exact .inl h0
      · right
        simp [h0] at hbf
        rcases at_two hI x.bef with ⟨b, hb, hbi, _⟩ | ⟨_, h⟩
        · exact ⟨b, hb, by rw [idAt_lt hb, hbi]⟩
        · omega
    rw [if_neg h2]
    rw [if_neg h2] at hc
    by_cases h3 : (x.kind == 3) = true
    · rw [if_pos h3]
      rw [if_pos h3] at hc
      unfold remB at hc
      simp only [Bool.and_eq_true, Bool.not_eq_true'] at hc
      exact h.rem (fitP_all hU hk) hk (by rw [hki]; simpa using hc.2.2)
    rw [if_neg h3]
    by_cases h6 : (x.kind == 6) = true
    · rw [if_pos h6]
      exact h.put hk rfl rfl
    rw [if_neg h6]
    by_cases h4 : (x.kind == 4) = true
    · rw [if_pos h4]
      exact h.put hk rfl rfl
    · rw [if_neg h4]
      exact h.put hk rfl rfl
def runP (R : List RN) (last : Int) (X : Nat → Pat) : Nat → List RN × Int
  | 0 => (R, last)
  | k + 1 => (didP (runP R last X k).1 (X k), lastP (runP R last X k).2 (X k))
def RunsTo (R : List RN) (last : Int) (X : Nat → Pat) (k : Nat) : Prop := ∀ j, j < k → canP (runP R last X j).1 (runP R last X j).2 (X j) = true
theorem RunsTo.zero (R : List RN) (last : Int) (X : Nat → Pat) : RunsTo R last X 0 := fun _ h => absurd h (Nat.not_lt_zero _)
theorem RunsTo.succ {R : List RN} {last : Int} {X : Nat → Pat} {k : Nat} (h : RunsTo R last X k) (hk : canP (runP R last X k).1 (runP R last X k).2 (X k) = true) : RunsTo R last X (k + 1) := fun j hj => by
  rcases Nat.lt_succ_iff_lt_or_eq.1 hj with hj | rfl
  · exact h j hj
  · exact hk
theorem last_one {R : List RN} {last : Int} {x : Pat} (hc : canP R last x = true) : lastP last x = last ∨ lastP last x = last + 1 := by
  unfold lastP
  by_cases h1 : (x.kind == 1) = true
  · rw [if_pos h1]
    unfold canP at hc
    rw [if_pos h1] at hc
    unfold createB at hc
    simp only [Bool.and_eq_true, beq_iff_eq] at hc
    right
    omega
  · rw [if_neg h1]; exact .inl rfl
theorem RunsTo.ok {R : List RN} {last : Int} {X : Nat → Pat} (h : DocOk R last) (hF : Fine R) : ∀ {k : Nat}, RunsTo R last X k → DocOk (runP R last X k).1 (runP R last X k).2 ∧ Fine (runP R last X k).1 ∧ (runP R last X k).2 ≤ last + k := by
  intro k
  induction k with
  | zero => intro _; exact ⟨h, hF, by simp [runP]⟩
  | succ k ih =>
    intro hr
    obtain ⟨h1, h2, h3⟩ := ih fun j hj => hr j (by omega)
    have hc := hr k (by omega)
    refine ⟨h1.did hc, h2.did h1.ids hc, ?_⟩
    show lastP _ _ ≤ _
    rcases last_one hc with e | e <;> rw [e] <;> omega
end Go.Proofs.YtobgcaemnpkbmaaGreat
namespace Go.Proofs.YtobgcaemnpkbmaaGreat
open Go.RowKit
theorem attrInfo : (Tryz.prog.info? 72).map (fun i => (i.zero, i.size, i.bytes)) = some (some (.agg #[.string ⟨#[]⟩, .string ⟨#[]⟩]), 2, 32) := by kernel_rfl
theorem attrSize : (Tryz.prog.info? 72).map (·.size) = some 2 := by kernel_rfl
def spareS : ByteArray := ⟨#[115, 112, 97, 114, 101]⟩
def attrCell (nm vl : Nat → ByteArray) (j : Nat) : Value := if j % 2 = 0 then .string (nm (j / 2)) else .string (vl (j / 2))
def attrRow (n : Nat) (nm vl : Nat → ByteArray) (j : Nat) : Value := attrCell (fun i => if i < n then nm i else spareS) (fun i => if i < n then vl i else ⟨#[]⟩) j
theorem attrCell_even (nm vl : Nat → ByteArray) (i : Nat) : attrCell nm vl (i * 2) = .string (nm i) := by
  unfold attrCell; rw [if_pos (by omega)]; congr 2; omega
theorem attrCell_odd (nm vl : Nat → ByteArray) (i : Nat) : attrCell nm vl (i * 2 + 1) = .string (vl i) := by
  unfold attrCell; rw [if_neg (by omega)]; congr 2; omega
theorem attrCell_one (nm vl : Nat → ByteArray) (j : Nat) : (attrCell nm vl j).oneCell' = true := by
  unfold attrCell; split <;> rfl
theorem two_cases (j : Nat) : ∃ i, j = i * 2 ∨ j = i * 2 + 1 := ⟨j / 2, by omega⟩
theorem addr_add (b o j : Nat) : (⟨b, o, none⟩ : Addr).add j = ⟨b, o + j, none⟩ := by
  unfold Addr.add; split
  · next h => subst h; rfl
  · rfl
theorem attrs_src {w : World} {ao : Option Addr} {n : Nat} {nm vl : Nat → ByteArray} (h : AttrsAt w ao n nm vl) (h0 : 0 < n) : ∃ ad, ao = some ad ∧ ∀ j, j < n * 2 → w.cell? (ad.add j) = some (attrCell nm vl j) := by
  obtain ⟨b, o, e, _⟩ := h 0 h0
  refine ⟨⟨b, o, none⟩, e, fun j hj => ?_⟩
  rw [addr_add]
  obtain ⟨i, hi | hi⟩ := two_cases j
  · obtain ⟨b', o', e', _, c0, _⟩ := h i (by omega)
    rw [e] at e'; cases e'
    rw [hi, attrCell_even]; exact c0
  · obtain ⟨b', o', e', _, _, c1, _⟩ := h i (by omega)
    rw [e] at e'; cases e'
    rw [hi, attrCell_odd]; exact c1
theorem attrRow_start {n j : Nat} {nm vl : Nat → ByteArray} {f : Nat → Value} : (if j < n * 2 then attrCell nm vl j else f j) = if j < n * 2 then attrRow n nm vl j else f j := by
  by_cases h : j < n * 2
  · rw [if_pos h, if_pos h]
    unfold attrRow attrCell
    have : j / 2 < n := by omega
    simp [this]
  · rw [if_neg h, if_neg h]
theorem attrRow_step {n k j : Nat} {nm vl : Nat → ByteArray} {f : Nat → Value} (hk : n ≤ k) :
    (if j = k * 2 + 1 then .string ⟨#[]⟩ else if j = k * 2 then .string ⟨#[115, 112, 97, 114, 101]⟩ else if j < k * 2 then attrRow n nm vl j else f j) = if j < (k + 1) * 2 then attrRow n nm vl j else f j := by
  by_cases h1 : j = k * 2 + 1
  · rw [if_pos h1, if_pos (by omega), h1]
    unfold attrRow; rw [attrCell_odd, if_neg (by omega)]
  · rw [if_neg h1]
    by_cases h2 : j = k * 2
    · rw [if_pos h2, if_pos (by omega), h2]
      unfold attrRow; rw [attrCell_even, if_neg (by omega)]; rfl
    · rw [if_neg h2]
      by_cases h3 : j < k * 2
      · rw [if_pos h3, if_pos (by omega)]
      · rw [if_neg h3, if_neg (by omega)]
set_option maxRecDepth 100000 in
set_option maxHeartbeats 400000 in
theorem attrs_any (ao : Option Addr) (n c : Nat) (nm vl : Nat → ByteArray) (w : World) (hn : n * 32 ≤ 140737488351232) (hA : AttrsAt w ao n nm vl) :
    Calls Tryz.prog 21 #[.slice ao n c] w fun e w' => e = .returned (.slice (some ⟨w.heap.size, 0, none⟩) (n + 3) (n + 3)) ∧ Below w.heap.size w w' ∧ w'.rowIs w.heap.size 72 ((n + 3) * 2) (attrRow n nm vl) := by
  obtain ⟨i0, hi, hz0, hz1, hz2⟩ := info_parts attrInfo
  have HA := hide hA
  clear hA
  go_enter Tryz.func21, Tryz.ntmps21
  go_wp2_with (first | (refine wpList_make_rows rfl (.tmp 7) (.tmp 7) 31 rfl 72 i0 _ 2 32 Tryz.underlying31 hi hz0 hz1 hz2 .i64 .i64 _ (n + 3) rfl rfl (by omega) (by omega) (by omega) ?_; intro w1 f1 hr1 hs1 hb1) | (refine wpList_copy_rows rfl (.tmp 9) (.tmp 10) 31 31 rfl 72 Tryz.underlying31 2 attrSize w.heap.size (n + 3) (n + 3) ao n c rfl rfl (by omega) 72 ((n + 3) * 2) f1 (unhide hr1) (attrCell nm vl) (attrs_src ((unhide HA).below hb1)) (by omega) (fun j _ => attrCell_one _ _ j) w.heap.size w hb1 (Nat.le_refl _) ?_; intro w2 hr2 hs2 hb2))
  go_loopw [4] (fun i wr => ∃ k : Nat, n ≤ k ∧ k ≤ n + 3 ∧ i = .int .i64 k ∧ Hid (wr.rowIs w.heap.size 72 ((n + 3) * 2) (fun j => if j < k * 2 then attrRow n nm vl j else f1 j)) ∧ Below w.heap.size w wr) (fun i _ => n + 3 - (intOf i).toNat)
  case atStart => exact ⟨n, Nat.le_refl _, by omega, rfl, hide (hr2.out.congr fun j _ => attrRow_start), hb2⟩
  case round =>
    obtain ⟨k, hk1, hk2, rfl, hr, hbel⟩ := hrel
    by_cases hlt : k < n + 3
    · obtain ⟨u0, hu0⟩ : ∃ u, wr.cell? ⟨w.heap.size, k * 2, none⟩ = some u := ⟨_, hr.out.cell (by omega)⟩
      obtain ⟨u1, hu1⟩ : ∃ u, wr.cell? ⟨w.heap.size, k * 2 + 1, none⟩ = some u := ⟨_, hr.out.cell (by omega)⟩
      have f0 := hr.out.frozen (k * 2)
      have f1' := hr.out.frozen (k * 2 + 1)
      go_wp2
      go_roundw
      case rel => exact ⟨k + 1, by omega, by omega, by go_num, hide (((hr.out.set _ _).set _ _).congr fun j _ => attrRow_step hk1), (hbel.setCell (Nat.le_refl _) _).setCell (Nat.le_refl _) _⟩
      case measure => simp [intOf]; omega
    · go_wp2
      go_ret
      refine ⟨rfl, hbel, hr.out.congr fun j hj => ?_⟩
      rw [if_pos (by omega)]
end Go.Proofs.YtobgcaemnpkbmaaGreat
