/- Any -/
import Derived.Test.YtobgcaemnpkbmaaGreatD20
import Derived.Test.YtobgcaemnpkbmaaGreatD25
import Derived.Test.YtobgcaemnpkbmaaGreatD26
import Derived.Test.YtobgcaemnpkbmaaGreatD08
namespace Go.Proofs.YtobgcaemnpkbmaaGreat
open Go.RowKit
def PN.none : PN := ⟨0, 0, ⟨#[]⟩, 0, ⟨#[]⟩, []⟩
def nth (R : List RN) (k : Nat) : RN := match R[k]? with | some n => n | none => PN.none.bare
theorem nth_lt {R : List RN} {k : Nat} (h : k < R.length) : nth R k = R[k] := by unfold nth; rw [List.getElem?_eq_getElem h]
theorem bare_nth (R : List RN) (k : Nat) : nth (bareL R) k = (nth R k).bare := by
  unfold nth bareL
  rw [List.getElem?_map]
  cases R[k]? <;> rfl
open Classical in
noncomputable def insB (R : List RN) (x : Pat) : Bool :=
  x.name.toList.isEmpty && x.text.toList.isEmpty && !(x.id == 1) && decide (0 ≤ atP R x.par) && !(nth R (atP R x.par).toNat).tag.toList.isEmpty &&
    (!(x.bef != 0) || (decide (0 ≤ atP R x.bef) && !((nth R (atP R x.bef).toNat).par != x.par) && !(x.bef == x.id))) && !decide (WithinP R x.par x.id)
def remB (x : Pat) : Bool := x.name.toList.isEmpty && x.text.toList.isEmpty && !(x.id == 1)
def wriB (n : RN) (x : Pat) : Bool := x.name.toList.isEmpty && decide ((x.text.size : Int) ≤ 20) && n.tag.toList.isEmpty
def hasB (n : RN) (x : Pat) : Bool := decide ((unsetP n.ats x.name).length < n.ats.length)
def setB (n : RN) (x : Pat) : Bool := nameB x.name && !n.tag.toList.isEmpty && decide ((x.text.size : Int) ≤ 20) && (hasB n x || decide (n.ats.length < 5))
def unsB (n : RN) (x : Pat) : Bool := nameB x.name && !n.tag.toList.isEmpty && decide ((x.text.size : Int) ≤ 20) && hasB n x && x.text.toList.isEmpty
def ofP (R : List RN) (x : Pat) : RN := nth R (atP R x.id).toNat
noncomputable def canP (R : List RN) (last : Int) (x : Pat) : Bool :=
  if (x.kind == 1) = true then createB R.length last x
  else decide (0 ≤ atP R x.id) && !(x.key != 0) && x.tag.toList.isEmpty &&
    (if (x.kind == 2) = true then insB R x
      else !(x.par != 0) && !(x.bef != 0) &&
        (if (x.kind == 3) = true then remB x else if (x.kind == 6) = true then wriB (ofP R x) x else if (x.kind == 4) = true then setB (ofP R x) x else if (x.kind == 5) = true then unsB (ofP R x) x else false))
def didP (R : List RN) (x : Pat) : List RN :=
  if (x.kind == 1) = true then R ++ [newRN x]
  else if (x.kind == 2) = true then insP R { ofP R x with par := x.par } (atP R x.id).toNat x.bef
  else if (x.kind == 3) = true then rmP R (walkP R R.length (atP R x.id).toNat 0)
  else if (x.kind == 6) = true then R.set (atP R x.id).toNat { ofP R x with text := x.text }
  else if (x.kind == 4) = true then R.set (atP R x.id).toNat { ofP R x with ats := setP (ofP R x).ats x.name x.text }
  else R.set (atP R x.id).toNat { ofP R x with ats := unsetP (ofP R x).ats x.name }
def lastP (last : Int) (x : Pat) : Int := if (x.kind == 1) = true then x.id else last
theorem bare_of (R : List RN) (x : Pat) : ofP (bareL R) x = (ofP R x).bare := by unfold ofP; rw [bare_atP, bare_nth]
theorem bare_can (R : List RN) (last : Int) (x : Pat) : canP (bareL R) last x = canP R last x := by
  unfold canP insB
  rw [bareL_length, bare_atP, bare_atP, bare_atP, bare_of, bare_nth, bare_nth]
  have hW : WithinP (bareL R) x.par x.id = WithinP R x.par x.id := propext (bare_within R x.par x.id)
  rw [hW]
  rfl
theorem bare_did (R : List RN) (x : Pat) : bareL (didP R x) = didP (bareL R) x := by
  unfold didP
  rw [bareL_length, bare_atP, bare_of, bare_walkP]
  by_cases h1 : (x.kind == 1) = true
  · rw [if_pos h1, if_pos h1, bareL_append]; rfl
  rw [if_neg h1, if_neg h1]
  by_cases h2 : (x.kind == 2) = true
  · rw [if_pos h2, if_pos h2, bare_insP]; rfl
  rw [if_neg h2, if_neg h2]
  by_cases h3 : (x.kind == 3) = true
  · rw [if_pos h3, if_pos h3, bare_rmP]
  rw [if_neg h3, if_neg h3]
  by_cases h6 : (x.kind == 6) = true
  · rw [if_pos h6, if_pos h6, bare_set]; rfl
  rw [if_neg h6, if_neg h6]
  by_cases h4 : (x.kind == 4) = true
  · rw [if_pos h4, if_pos h4, bare_set]; rfl
  rw [if_neg h4, if_neg h4, bare_set]; rfl
def DoPost (S : Nat → Prop) (p : Nat) (R : List RN) (last : Int) (x : Pat) (w : World) (e : Ending) (w' : World) : Prop :=
  e = .returned (.bool (canP R last x)) ∧ Touch S w w' ∧
    ∃ R' last' v', RefAt (andNew S w w') w' p R' last' v' ∧ DocOk R' last' ∧ Either (canP R last x) (bareL R' = bareL (didP R x) ∧ last' = lastP last x) (R' = R ∧ last' = last)
theorem did_not {S : Nat → Prop} {p : Nat} {R : List RN} {last : Int} {v : Value} {x : Pat} {w : World} (h : RefAt S w p R last v) (hd : DocOk R last) (hc : canP R last x = false) {F : Nat} {a : Array Value}
    (hC : Calls Tryz.prog F a w fun e w' => e = .returned (.bool false) ∧ Below w.heap.size w w') : Calls Tryz.prog F a w (DoPost S p R last x w) := by
  refine hC.mono fun e w' hp => ?_
  obtain ⟨rfl, hb⟩ := hp
  unfold DoPost
  rw [hc]
  exact ⟨rfl, Touch.of_below hb, R, last, v, (h.below hb).mono fun _ _ hs => .inl hs, hd, .no ⟨rfl, rfl⟩⟩
theorem did_ok {S T : Nat → Prop} {p : Nat} {R : List RN} {last : Int} {x : Pat} {w : World} (hT : ∀ b, T b → S b) (hc : canP R last x = true) (hk : (x.kind == 1) = false) {F : Nat} {a : Array Value} {P : List RN → Prop}
    (hC : Calls Tryz.prog F a w fun e w' => e = .returned (.bool true) ∧ Touch T w w' ∧ ∃ R' v', RefAt (andNew S w w') w' p R' last v' ∧ P R') (hP : ∀ R', P R' → DocOk R' last ∧ bareL R' = bareL (didP R x)) : Calls Tryz.prog F a w (DoPost S p R last x w) := by
  refine hC.mono fun e w' hp => ?_
  obtain ⟨rfl, ht, R', v', hr, hq⟩ := hp
  unfold DoPost
  rw [hc]
  exact ⟨rfl, ⟨ht.os, ht.tape, ht.output, ht.size, fun k hk hn => ht.block k hk fun h => hn (hT _ h)⟩, R', last, v', hr, (hP R' hq).1, .yes ⟨(hP R' hq).2, by unfold lastP; rw [hk]; rfl⟩⟩
theorem atP_cases (R : List RN) (id : Int) : atP R id = -1 ∨ ∃ k, ∃ hk : k < R.length, atP R id = (k : Int) ∧ R[k].id = id := by
  unfold atP
  cases h : R.findIdx? (fun n => n.id == id) with
  | none => exact .inl rfl
  | some k =>
    obtain ⟨hk, he, _⟩ := List.findIdx?_eq_some_iff_getElem.1 h
    exact .inr ⟨k, hk, rfl, by simpa using he⟩
theorem not_false' {b : Bool} (h : ¬ b = false) : b = true := by cases b <;> simp_all
theorem not_true {b : Bool} (h : ¬ b = true) : b = false := by cases b <;> simp_all
set_option maxHeartbeats 1000000 in
theorem do_any (S : Nat → Prop) (p : Nat) (R : List RN) (last : Int) (v : Value) (x : Pat) (hx : x.Ok) (w : World) (hl1 : last ≤ 4611686018427387904) (hd : DocOk R last) (h : RefAt S w p R last v) :
    Calls Tryz.prog 37 #[.pointer (some ⟨p, 0, none⟩), x.val] w (DoPost S p R last x w) := by
  by_cases hk1 : (x.kind == 1) = true
  · have hk : x.kind = 1 := by simpa using hk1
    have hl := hd.last_pos
    have hcan : canP R last x = createB R.length last x := by unfold canP; rw [if_pos hk1]
    refine (do_create S p R last v x hx hk w (by omega) hl1 h).mono fun e w' hp => ?_
    obtain ⟨rfl, ht, he⟩ := hp
    unfold DoPost
    rw [hcan]
    refine ⟨rfl, ht, ?_⟩
    cases hb : createB R.length last x with
    | true =>
      obtain ⟨v', hr⟩ := he.1 hb
      have hid : x.id = last + 1 := by
        unfold createB at hb
        simp only [Bool.and_eq_true, beq_iff_eq] at hb
        exact hb.1.1.1.1.2
      exact ⟨_, _, v', hr, hd.more (n := newRN x) (by show last < x.id; omega) rfl, .yes ⟨by unfold didP; rw [if_pos hk1], by unfold lastP; rw [if_pos hk1]⟩⟩
    | false => exact ⟨R, last, v, (he.2 hb).mono fun _ _ hs => .inl hs, hd, .no ⟨rfl, rfl⟩⟩
  replace hk1 := not_true hk1
  obtain ⟨kd, id, pa, bf, ky, tg, nm, tx⟩ := x
  obtain ⟨ht, hnm, htx⟩ := hx
  simp only at hk1 ht hnm htx
  unfold Pat.val
  simp only []
  rcases atP_cases R id with ha | ⟨k, hk, ha, hidk⟩
  · exact did_not h hd (by simp [canP, hk1, ha]) (do_none S p R last v kd id pa bf ky tg nm tx w h hk1 ha)
  have hof : ofP R ⟨kd, id, pa, bf, ky, tg, nm, tx⟩ = R[k] := by unfold ofP; simp only [ha]; exact nth_lt hk
  by_cases hky : (ky != 0) = true
  · exact did_not h hd (by simp [canP, hk1, hky]) (do_key S p R last v kd id pa bf ky tg nm tx w h hk1 k hk ha hky)
  replace hky := not_true hky
  by_cases htg : tg.toList.isEmpty = false
  · exact did_not h hd (by simp [canP, hk1, htg]) (do_tag S p R last v kd id pa bf ky tg nm tx w h hk1 k hk ha hky htg)
  replace htg := not_false' htg
  obtain ⟨rk, hU⟩ := hd.up
  have hpos := hd.ids.pos _ (List.getElem_mem hk)
  by_cases hk2 : (kd == 2) = true
  · have hkd : kd = 2 := by simpa using hk2
    have hcan : canP R last ⟨kd, id, pa, bf, ky, tg, nm, tx⟩ = insB R ⟨kd, id, pa, bf, ky, tg, nm, tx⟩ := by simp [canP, hk1, ha, hky, htg, hk2]
    by_cases hne : nm.toList.isEmpty = false
    · exact did_not h hd (by rw [hcan]; simp [insB, hne]) (do_ins_name S p R last v kd id pa bf ky tg nm tx w h hk1 k hk ha hky htg hkd hne _ _ rfl rfl)
    replace hne := not_false' hne
    by_cases hxe : tx.toList.isEmpty = false
    · exact did_not h hd (by rw [hcan]; simp [insB, hxe]) (do_ins_text S p R last v kd id pa bf ky tg nm tx w h hk1 k hk ha hky htg hkd hne hxe _ _ rfl rfl)
    replace hxe := not_false' hxe
    by_cases hid : (id == 1) = true
    · exact did_not h hd (by rw [hcan]; simp [insB, hid]) (do_ins_root S p R last v kd id pa bf ky tg nm tx w h hk1 k hk ha hky htg hkd hne hxe hid _ _ rfl rfl)
    replace hid := not_true hid
    rcases atP_cases R pa with hat | ⟨t, ht', hat, hidt⟩
    · exact did_not h hd (by rw [hcan]; simp [insB, hat]) (do_ins_nopar S p R last v kd id pa bf ky tg nm tx w h hk1 k hk ha hky htg hkd hne hxe hid _ hat rfl)
    have hnt : nth R (atP R pa).toNat = R[t] := by rw [hat]; exact nth_lt ht'
    by_cases htag : R[t].tag.toList.isEmpty = true
    · exact did_not h hd (by rw [hcan]; simp [insB, hnt, htag]) (do_ins_txpar S p R last v kd id pa bf ky tg nm tx w h hk1 k hk ha hky htg hkd hne hxe hid t ht' hat htag _ rfl)
    replace htag := not_true htag
    have hpm : ∃ n, n ∈ R ∧ n.id = pa := ⟨R[t], List.getElem_mem ht', hidt⟩
    have hid0 : id ≠ 0 := by omega
    have hid1 : R[k].id ≠ 1 := by rw [hidk]; simpa using hid
    have hdid : didP R ⟨kd, id, pa, bf, ky, tg, nm, tx⟩ = insP R { R[k] with par := pa } k bf := by
      unfold didP
      rw [hof]
      simp only [hk1, hk2, ha]
      rfl
    by_cases hbf : (bf != 0) = true
    · rcases atP_cases R bf with hab | ⟨b, hb, hab, hidb⟩
      · exact did_not h hd (by rw [hcan]; simp [insB, hbf, hab]) (do_ins_nobef S p R last v kd id pa bf ky tg nm tx w h hk1 k hk ha hky htg hkd hne hxe hid t ht' hat htag hbf hab)
      have hnb : nth R (atP R bf).toNat = R[b] := by rw [hab]; exact nth_lt hb
      by_cases hbp : (R[b].par != pa) = true
      · exact did_not h hd (by rw [hcan]; simp [insB, hbf, hnb, hbp]) (do_ins_nokid S p R last v kd id pa bf ky tg nm tx w h hk1 k hk ha hky htg hkd hne hxe hid t ht' hat htag hbf b hb hab hbp)
      replace hbp := not_true hbp
      by_cases hbi : (bf == id) = true
      · exact did_not h hd (by rw [hcan]; simp [insB, hbf, hbi]) (do_ins_self S p R last v kd id pa bf ky tg nm tx w h hk1 k hk ha hky htg hkd hne hxe hid t ht' hat htag hbf b hb hab hbp hbi)
      replace hbi := not_true hbi
      have hbb : bf = 0 ∨ ∃ i, i < R.length ∧ idAt R i = bf := .inr ⟨b, hb, by rw [idAt_lt hb, hidb]⟩
      by_cases hin : inP R (rk pa + 1) pa id = true
      · have := (inP_iff hU hd.ids hid0 hpm).1 hin
        exact did_not h hd (by rw [hcan]; simp [insB, this]) (do_ins_in1 S p R last v kd id pa bf ky tg nm tx w h hk1 k hk ha hky htg hkd hne hxe hid t ht' hat hidt htag hbf b hb hab hbp hbi rk hU hin)
      replace hin := not_true hin
      have hwi := (inP_not hU hd.ids hid0 hpm).1 hin
      refine did_ok (T := fun b => b = p) (P := fun R' => R' = insP R { R[k] with par := pa } k bf) (fun b e => e ▸ h.sp) (by rw [hcan]; simp [insB, hne, hxe, hid, nth_lt ht', htag, hbf, nth_lt hb, hbp, hbi, hwi, hat, hab]) hk1 ((do_ins_ok1 S p R last v kd id pa bf ky tg nm tx w h hk1 k hk ha hky htg hkd hne hxe hid t ht' hat hidt htag hbf b hb hab hbp hbi ha (by rw [insP_length hd.ids hk hbb]; exact h.few) (insP_mem hd.ids hk hbb) rk hU hin).mono fun e w' ⟨h1, h2, v', h3⟩ => ⟨h1, h2, _, v', h3, rfl⟩) fun R' e => ?_
      subst e
      exact ⟨hd.ins hU hk hid1 hbb hpm (by rw [hidk]; exact hin), by rw [hdid]⟩
    · replace hbf := not_true hbf
      have hbb : bf = 0 ∨ ∃ i, i < R.length ∧ idAt R i = bf := .inl (by simpa using hbf)
      by_cases hin : inP R (rk pa + 1) pa id = true
      · have := (inP_iff hU hd.ids hid0 hpm).1 hin
        exact did_not h hd (by rw [hcan]; simp [insB, this]) (do_ins_in0 S p R last v kd id pa bf ky tg nm tx w h hk1 k hk ha hky htg hkd hne hxe hid t ht' hat hidt htag hbf _ rfl rk hU hin)
      replace hin := not_true hin
      have hwi := (inP_not hU hd.ids hid0 hpm).1 hin
      refine did_ok (T := fun b => b = p) (P := fun R' => R' = insP R { R[k] with par := pa } k bf) (fun b e => e ▸ h.sp) (by rw [hcan]; simp [insB, hne, hxe, hid, nth_lt ht', htag, hbf, hwi, hat]) hk1 ((do_ins_ok0 S p R last v kd id pa bf ky tg nm tx w h hk1 k hk ha hky htg hkd hne hxe hid t ht' hat hidt htag hbf _ rfl ha (by rw [insP_length hd.ids hk hbb]; exact h.few) (insP_mem hd.ids hk hbb) rk hU hin).mono fun e w' ⟨h1, h2, v', h3⟩ => ⟨h1, h2, _, v', h3, rfl⟩) fun R' e => ?_
      subst e
      exact ⟨hd.ins hU hk hid1 hbb hpm (by rw [hidk]; exact hin), by rw [hdid]⟩
  replace hk2 := not_true hk2
  have hk2' : (kd != 2) = true := by simpa using hk2
  by_cases hpa : (pa != 0) = true
  · exact did_not h hd (by simp [canP, hk1, hk2, hpa]) (do_par S p R last v kd id pa bf ky tg nm tx w h hk1 k hk ha hky htg hk2' hpa)
  replace hpa := not_true hpa
  by_cases hbf : (bf != 0) = true
  · exact did_not h hd (by simp [canP, hk1, hk2, hbf]) (do_bef S p R last v kd id pa bf ky tg nm tx w h hk1 k hk ha hky htg hk2' hpa hbf)
  replace hbf := not_true hbf
  by_cases hk3 : (kd == 3) = true
  · have hkd : kd = 3 := by simpa using hk3
    have hcan : canP R last ⟨kd, id, pa, bf, ky, tg, nm, tx⟩ = remB ⟨kd, id, pa, bf, ky, tg, nm, tx⟩ := by simp [canP, hk1, hk2, ha, hky, htg, hpa, hbf, hk3]
    by_cases hne : nm.toList.isEmpty = false
    · exact did_not h hd (by rw [hcan]; simp [remB, hne]) (do_rem_name S p R last v kd id pa bf ky tg nm tx w h hk1 k hk ha hky htg hpa hbf hkd hne)
    replace hne := not_false' hne
    by_cases hxe : tx.toList.isEmpty = false
    · exact did_not h hd (by rw [hcan]; simp [remB, hxe]) (do_rem_text S p R last v kd id pa bf ky tg nm tx w h hk1 k hk ha hky htg hpa hbf hkd hne hxe)
    replace hxe := not_false' hxe
    by_cases hid : (id == 1) = true
    · exact did_not h hd (by rw [hcan]; simp [remB, hid]) (do_rem_root S p R last v kd id pa bf ky tg nm tx w h hk1 k hk ha hky htg hpa hbf hkd hne hxe hid)
    replace hid := not_true hid
    have hid1 : R[k].id ≠ 1 := by rw [hidk]; simpa using hid
    have hfit := fitP_all hU hk
    have hwl := walk_length hU hd.ids hfit (d := 0)
    have hfew := h.few
    refine did_ok (T := fun b => b = p) (P := fun R' => R' = rmP R (walkP R R.length k 0)) (fun b e => e ▸ h.sp) (by rw [hcan]; simp [remB, hne, hxe, hid]) hk1 ((do_rem_ok S p R last v kd id pa bf ky tg nm tx w h hk1 k hk ha hky htg hpa hbf hkd hne hxe hid R.length (by omega) hfit (by omega)).mono fun e w' ⟨h1, h2, v', h3⟩ => ⟨h1, h2, _, v', h3, rfl⟩) fun R' e => ?_
    subst e
    refine ⟨hd.rem hfit hk hid1, ?_⟩
    unfold didP
    simp only [hk1, hk2, hk3, ha]
    rfl
  replace hk3 := not_true hk3
  by_cases hk6 : (kd == 6) = true
  · have hkd : kd = 6 := by simpa using hk6
    have hcan : canP R last ⟨kd, id, pa, bf, ky, tg, nm, tx⟩ = wriB R[k] ⟨kd, id, pa, bf, ky, tg, nm, tx⟩ := by simp [canP, hk1, hk2, ha, hky, htg, hpa, hbf, hk3, hk6, hof]
    by_cases hne : nm.toList.isEmpty = false
    · exact did_not h hd (by rw [hcan]; simp [wriB, hne]) (do_wri_name S p R last v kd id pa bf ky tg nm tx w h hk1 k hk ha hky htg hpa hbf hkd hne)
    replace hne := not_false' hne
    by_cases hlt : ¬ ((tx.size : Int) ≤ 20)
    · exact did_not h hd (by rw [hcan]; unfold wriB; rw [decide_eq_false (by exact hlt)]; simp) (do_wri_text S p R last v kd id pa bf ky tg nm tx w h hk1 k hk ha hky htg hpa hbf hkd hne (by omega))
    replace hlt := Decidable.not_not.1 hlt
    by_cases htag : R[k].tag.toList.isEmpty = false
    · exact did_not h hd (by rw [hcan]; simp [wriB, htag]) (do_wri_elem S p R last v kd id pa bf ky tg nm tx w h hk1 k hk ha hky htg hpa hbf hkd hne hlt htag)
    replace htag := not_false' htag
    refine did_ok (T := S) (P := fun R' => R' = R.set k { R[k] with text := tx }) (fun b e => e) (by rw [hcan]; unfold wriB; rw [decide_eq_true (by exact hlt)]; simp [hne, htag]) hk1 ((do_wri_ok S p R last v kd id pa bf ky tg nm tx w h hk1 k hk ha hky htg hpa hbf hkd hne hlt htag).mono fun e w' ⟨h1, h2, v', h3⟩ => ⟨h1, h2, _, v', h3, rfl⟩) fun R' e => ?_
    subst e
    refine ⟨hd.put hk rfl rfl, ?_⟩
    unfold didP
    rw [hof]
    simp only [hk1, hk2, hk3, hk6, ha]
    rfl
  replace hk6 := not_true hk6
  have hok := h.node _ (List.getElem_mem hk)
  by_cases hk4 : (kd == 4) = true
  · have hkd : kd = 4 := by simpa using hk4
    have hcan : canP R last ⟨kd, id, pa, bf, ky, tg, nm, tx⟩ = setB R[k] ⟨kd, id, pa, bf, ky, tg, nm, tx⟩ := by simp [canP, hk1, hk2, ha, hky, htg, hpa, hbf, hk3, hk6, hk4, hof]
    have hk4' : (kd != 4) = false := by simpa using hk4
    have hk5 : (kd == 5) = false := by rw [hkd]; rfl
    by_cases hnr : nameB nm = false
    · exact did_not h hd (by rw [hcan]; simp [setB, hnr]) (do_set_name4 S p R last v kd id pa bf ky tg nm tx w h hk1 k hk ha hky htg hpa hbf hk2 hk3 hk6 hk2' hnm _ hnr hk4' rfl)
    replace hnr := not_false' hnr
    by_cases htag : R[k].tag.toList.isEmpty = true
    · exact did_not h hd (by rw [hcan]; simp [setB, htag]) (do_set_text4 S p R last v kd id pa bf ky tg nm tx w h hk1 k hk ha hky htg hpa hbf hk2 hk3 hk6 hk2' hnm _ hnr hk4' rfl htag)
    replace htag := not_true htag
    by_cases hlt : ¬ ((tx.size : Int) ≤ 20)
    · exact did_not h hd (by rw [hcan]; unfold setB; rw [decide_eq_false (by exact hlt)]; simp) (do_set_long4 S p R last v kd id pa bf ky tg nm tx w h hk1 k hk ha hky htg hpa hbf hk2 hk3 hk6 hk2' hnm _ hnr hk4' rfl htag (by omega))
    replace hlt := Decidable.not_not.1 hlt
    have hfin : ∀ R', (∃ a5 c5, R' = R.set k { R[k] with ats := setP R[k].ats nm tx, ao := a5, an := (setP R[k].ats nm tx).length, ac := c5 }) → DocOk R' last ∧ bareL R' = bareL (didP R ⟨kd, id, pa, bf, ky, tg, nm, tx⟩) := by
      rintro R' ⟨a5, c5, rfl⟩
      refine ⟨hd.put hk rfl rfl, ?_⟩
      unfold didP
      rw [hof]
      simp only [hk1, hk2, hk3, hk6, hk4, ha]
      rw [bare_set]
      simp only [Bool.false_eq_true, if_false, if_true]
      rw [bare_set]
      rfl
    by_cases hhas : (unsetP R[k].ats nm).length < R[k].an
    · have hl5 := setP_five (nm := nm) (vl := tx) (l := R[k].ats) (by rw [← hok.an]; exact hok.few) (.inl (by rw [← hok.an]; exact hhas))
      exact did_ok (T := S) (P := fun R' => ∃ a5 c5, R' = R.set k { R[k] with ats := setP R[k].ats nm tx, ao := a5, an := (setP R[k].ats nm tx).length, ac := c5 }) (fun b e => e) (by rw [hcan]; unfold setB hasB; rw [decide_eq_true (by exact hlt), decide_eq_true (by rw [← hok.an]; exact hhas)]; simp [hnr, htag]) hk1 ((do_set_ok1 S p R last v kd id pa bf ky tg nm tx w h hk1 k hk ha hky htg hpa hbf hk2 hk3 hk6 hk2' hnm hnr htag hlt hk4' hk5 hhas hl5).mono fun e w' ⟨h1, h2, v', a5, c5, h3⟩ => ⟨h1, h2, _, v', h3, a5, c5, rfl⟩) hfin
    · by_cases h5 : R[k].an < 5
      · have hl5 := setP_five (nm := nm) (vl := tx) (l := R[k].ats) (by rw [← hok.an]; exact hok.few) (.inr (by rw [← hok.an]; exact h5))
        exact did_ok (T := S) (P := fun R' => ∃ a5 c5, R' = R.set k { R[k] with ats := setP R[k].ats nm tx, ao := a5, an := (setP R[k].ats nm tx).length, ac := c5 }) (fun b e => e) (by rw [hcan]; unfold setB hasB; rw [decide_eq_true (by exact hlt), decide_eq_true (p := R[k].ats.length < 5) (by rw [← hok.an]; exact h5)]; simp [hnr, htag]) hk1 ((do_set_ok0 S p R last v kd id pa bf ky tg nm tx w h hk1 k hk ha hky htg hpa hbf hk2 hk3 hk6 hk2' hnm hnr htag hlt hk4' hk5 (by omega) h5 hl5).mono fun e w' ⟨h1, h2, v', a5, c5, h3⟩ => ⟨h1, h2, _, v', h3, a5, c5, rfl⟩) hfin
      · exact did_not h hd (by rw [hcan]; unfold setB hasB; rw [decide_eq_false (p := (unsetP R[k].ats nm).length < R[k].ats.length) (by rw [← hok.an]; exact hhas), decide_eq_false (p := R[k].ats.length < 5) (by rw [← hok.an]; exact h5)]; simp) (do_set_full S p R last v kd id pa bf ky tg nm tx w h hk1 k hk ha hky htg hpa hbf hk2 hk3 hk6 hk2' hnm hnr htag hlt hk4' hk5 (by omega) (by omega))
  replace hk4 := not_true hk4
  have hk4' : (kd != 4) = true := by simpa using hk4
  by_cases hk5 : (kd == 5) = true
  · have hkd : kd = 5 := by simpa using hk5
    have hcan : canP R last ⟨kd, id, pa, bf, ky, tg, nm, tx⟩ = unsB R[k] ⟨kd, id, pa, bf, ky, tg, nm, tx⟩ := by simp [canP, hk1, hk2, ha, hky, htg, hpa, hbf, hk3, hk6, hk4, hk5, hof]
    have hk5' : (kd != 5) = false := by simpa using hk5
    by_cases hnr : nameB nm = false
    · exact did_not h hd (by rw [hcan]; simp [unsB, hnr]) (do_set_name5 S p R last v kd id pa bf ky tg nm tx w h hk1 k hk ha hky htg hpa hbf hk2 hk3 hk6 hk2' hnm _ hnr hk4' hk5' rfl)
    replace hnr := not_false' hnr
    by_cases htag : R[k].tag.toList.isEmpty = true
    · exact did_not h hd (by rw [hcan]; simp [unsB, htag]) (do_set_text5 S p R last v kd id pa bf ky tg nm tx w h hk1 k hk ha hky htg hpa hbf hk2 hk3 hk6 hk2' hnm _ hnr hk4' hk5' rfl htag)
    replace htag := not_true htag
    by_cases hlt : ¬ ((tx.size : Int) ≤ 20)
    · exact did_not h hd (by rw [hcan]; unfold unsB; rw [decide_eq_false (by exact hlt)]; simp) (do_set_long5 S p R last v kd id pa bf ky tg nm tx w h hk1 k hk ha hky htg hpa hbf hk2 hk3 hk6 hk2' hnm _ hnr hk4' hk5' rfl htag (by omega))
    replace hlt := Decidable.not_not.1 hlt
    by_cases hhas : ¬ ((unsetP R[k].ats nm).length < R[k].an)
    · exact did_not h hd (by rw [hcan]; unfold unsB hasB; rw [decide_eq_false (p := (unsetP R[k].ats nm).length < R[k].ats.length) (by rw [← hok.an]; exact hhas)]; simp) (do_uns_not S p R last v kd id pa bf ky tg nm tx w h hk1 k hk ha hky htg hpa hbf hk2 hk3 hk6 hk2' hnm hnr htag hlt hk4' hk5' hk5 (by omega))
    replace hhas := Decidable.not_not.1 hhas
    by_cases hxe : tx.toList.isEmpty = false
    · exact did_not h hd (by rw [hcan]; simp [unsB, hxe]) (do_uns_text S p R last v kd id pa bf ky tg nm tx w h hk1 k hk ha hky htg hpa hbf hk2 hk3 hk6 hk2' hnm hnr htag hlt hk4' hk5' hk5 hhas hxe)
    replace hxe := not_false' hxe
    refine did_ok (T := S) (P := fun R' => ∃ a5 c5, R' = R.set k { R[k] with ats := unsetP R[k].ats nm, ao := a5, an := (unsetP R[k].ats nm).length, ac := c5 }) (fun b e => e) (by rw [hcan]; unfold unsB hasB; rw [decide_eq_true (by exact hlt), decide_eq_true (by rw [← hok.an]; exact hhas)]; simp [hnr, htag, hxe]) hk1 ((do_uns_ok S p R last v kd id pa bf ky tg nm tx w h hk1 k hk ha hky htg hpa hbf hk2 hk3 hk6 hk2' hnm hnr htag hlt hk4' hk5' hk5 hhas hxe).mono fun e w' ⟨h1, h2, v', a5, c5, h3⟩ => ⟨h1, h2, _, v', h3, a5, c5, rfl⟩) fun R' hr => ?_
    obtain ⟨a5, c5, rfl⟩ := hr
    refine ⟨hd.put hk rfl rfl, ?_⟩
    unfold didP
    rw [hof]
    simp only [hk1, hk2, hk3, hk6, hk4, ha]
    simp only [Bool.false_eq_true, if_false]
    rw [bare_set, bare_set]
    rfl
  replace hk5 := not_true hk5
  exact did_not h hd (by simp [canP, hk1, hk2, hk3, hk6, hk4, hk5]) (do_set_kind S p R last v kd id pa bf ky tg nm tx w h hk1 k hk ha hky htg hpa hbf hk2 hk3 hk6 hk2' hnm _ rfl hk4' (by simpa using hk5))
end Go.Proofs.YtobgcaemnpkbmaaGreat
