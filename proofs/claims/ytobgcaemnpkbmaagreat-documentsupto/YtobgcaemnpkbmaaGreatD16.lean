/- Cr -/
import Derived.Test.YtobgcaemnpkbmaaGreatD15
import Derived.Test.YtobgcaemnpkbmaaGreatD02
import Derived.Test.YtobgcaemnpkbmaaGreatD14
namespace Go.Proofs.YtobgcaemnpkbmaaGreat
open Go.RowKit
set_option maxHeartbeats 2000000 in
set_option maxRecDepth 100000 in
theorem create_id (ρ : Roles) (nb : Int → Nat) (mb : Nat) (rt : Option Nat) (w : World) (q : Nat) (R : List RN) (last : Int) (h : Dom ρ nb mb rt w q R last) (kd id pa bf ky : Int) (tg nm tx : ByteArray) (hl0 : 0 ≤ last) (hl1 : last ≤ 4611686018427387904) (hid : id ≠ last + 1) :
    Calls Tryz.prog 86 #[.pointer (some ⟨q, 0, none⟩), .agg #[.int .i64 kd, .int .i64 id, .int .i64 pa, .int .i64 bf, .int .i64 ky, .string tg, .string nm, .string tx]] w fun e w' => e = .returned (.bool false) ∧ Below w.heap.size w w' := by
  have d1 : w.cell? ⟨q, 1, none⟩ = some (.map (some mb)) := cell_of_blk h.blk 1 _ rfl
  have d2 : w.cell? ⟨q, 2, none⟩ = some (.int .i64 last) := cell_of_blk h.blk 2 _ rfl
  have ltq := lt_of_blk h.blk
  have hfew := h.few
  have HD := hide h
  clear h
  go_enter Tryz.func86, Tryz.ntmps86
  go_wp2_with fail
  generalize hw0 : (w.alloc (.cells #[.int .i64 kd, .int .i64 id, .int .i64 pa, .int .i64 bf, .int .i64 ky, .string tg, .string nm, .string tx] 29)).alloc (.cells #[.int .i64 0, .string tg, .int .i64 ky, .slice none 0 0, .string tx] 33) = w0
  have hb0 : Below w.heap.size w w0 := by rw [← hw0]; exact ((Below.refl _ _).alloc (Nat.le_refl _) _).alloc (by simp) _
  have hs0 : w0.heap.size = w.heap.size + 2 := by rw [← hw0]; simp
  have x1 : w0.cell? ⟨w.heap.size, 1, none⟩ = some (.int .i64 id) := by rw [← hw0]; simp [go_sem]
  have n0 : w0.cell? ⟨w.heap.size + 1, 0, none⟩ = some (.int .i64 0) := by rw [← hw0]; simp [go_sem]
  have n1 : w0.cell? ⟨w.heap.size + 1, 1, none⟩ = some (.string tg) := by rw [← hw0]; simp [go_sem]
  have n2 : w0.cell? ⟨w.heap.size + 1, 2, none⟩ = some (.int .i64 ky) := by rw [← hw0]; simp [go_sem]
  have n3 : w0.cell? ⟨w.heap.size + 1, 3, none⟩ = some (.slice none 0 0) := by rw [← hw0]; simp [go_sem]
  have n4 : w0.cell? ⟨w.heap.size + 1, 4, none⟩ = some (.string tx) := by rw [← hw0]; simp [go_sem]
  have y1 : w0.cell? ⟨q, 1, none⟩ = some (.map (some mb)) := (hb0.cell (p := ⟨q, 1, none⟩) ltq).trans d1
  have y2 : w0.cell? ⟨q, 2, none⟩ = some (.int .i64 last) := (hb0.cell (p := ⟨q, 2, none⟩) ltq).trans d2
  have HB0 := hide hb0
  have HS0 := hide hs0
  have lq0 : q < w0.heap.size := by omega
  have lw0 : w.heap.size < w0.heap.size := by omega
  have lt0 : w.heap.size + 1 < w0.heap.size := by omega
  clear hw0 hb0 hs0 d1 d2
  have hne : (id != last + 1) = true := by simpa using hid
  go_big_quiet (fail)
  go_wp2_with fail
  go_ret
  exact ⟨rfl, belowD HB0.out _⟩
set_option maxHeartbeats 2000000 in
set_option maxRecDepth 100000 in
theorem create_many (ρ : Roles) (nb : Int → Nat) (mb : Nat) (rt : Option Nat) (w : World) (q : Nat) (R : List RN) (last : Int) (h : Dom ρ nb mb rt w q R last) (kd pa bf ky : Int) (tg nm tx : ByteArray) (hl0 : 0 ≤ last) (hl1 : last ≤ 4611686018427387904) (hmany : 800 ≤ R.length) :
    Calls Tryz.prog 86 #[.pointer (some ⟨q, 0, none⟩), .agg #[.int .i64 kd, .int .i64 (last + 1), .int .i64 pa, .int .i64 bf, .int .i64 ky, .string tg, .string nm, .string tx]] w fun e w' => e = .returned (.bool false) ∧ Below w.heap.size w w' := by
  have d1 : w.cell? ⟨q, 1, none⟩ = some (.map (some mb)) := cell_of_blk h.blk 1 _ rfl
  have d2 : w.cell? ⟨q, 2, none⟩ = some (.int .i64 last) := cell_of_blk h.blk 2 _ rfl
  have ltq := lt_of_blk h.blk
  have hfew := h.few
  have HD := hide h
  clear h
  go_enter Tryz.func86, Tryz.ntmps86
  go_wp2_with fail
  generalize hw0 : (w.alloc (.cells #[.int .i64 kd, .int .i64 (last + 1), .int .i64 pa, .int .i64 bf, .int .i64 ky, .string tg, .string nm, .string tx] 29)).alloc (.cells #[.int .i64 0, .string tg, .int .i64 ky, .slice none 0 0, .string tx] 33) = w0
  have hb0 : Below w.heap.size w w0 := by rw [← hw0]; exact ((Below.refl _ _).alloc (Nat.le_refl _) _).alloc (by simp) _
  have hs0 : w0.heap.size = w.heap.size + 2 := by rw [← hw0]; simp
  have x1 : w0.cell? ⟨w.heap.size, 1, none⟩ = some (.int .i64 (last + 1)) := by rw [← hw0]; simp [go_sem]
  have n0 : w0.cell? ⟨w.heap.size + 1, 0, none⟩ = some (.int .i64 0) := by rw [← hw0]; simp [go_sem]
  have n1 : w0.cell? ⟨w.heap.size + 1, 1, none⟩ = some (.string tg) := by rw [← hw0]; simp [go_sem]
  have n2 : w0.cell? ⟨w.heap.size + 1, 2, none⟩ = some (.int .i64 ky) := by rw [← hw0]; simp [go_sem]
  have n3 : w0.cell? ⟨w.heap.size + 1, 3, none⟩ = some (.slice none 0 0) := by rw [← hw0]; simp [go_sem]
  have n4 : w0.cell? ⟨w.heap.size + 1, 4, none⟩ = some (.string tx) := by rw [← hw0]; simp [go_sem]
  have y1 : w0.cell? ⟨q, 1, none⟩ = some (.map (some mb)) := (hb0.cell (p := ⟨q, 1, none⟩) ltq).trans d1
  have y2 : w0.cell? ⟨q, 2, none⟩ = some (.int .i64 last) := (hb0.cell (p := ⟨q, 2, none⟩) ltq).trans d2
  have HB0 := hide hb0
  have HS0 := hide hs0
  have lq0 : q < w0.heap.size := by omega
  have lw0 : w.heap.size < w0.heap.size := by omega
  have lt0 : w.heap.size + 1 < w0.heap.size := by omega
  have hlenq : ∀ n ty, (Builtin.len_ #[111] ty #[.map (some mb)]).run Tryz.prog (w0.drewN n) = .ok (.int .i64 R.length) (w0.drewN n) := fun n ty => (HD.out.map.heap (w' := w0.drewN n) (HB0.out.block mb HD.out.map.lt)).len ty
  clear hw0 hb0 hs0 d1 d2
  have hge : (800 : Int) ≤ (R.length : Int) := by omega
  go_big_quiet (fail)
  go_wp2_with fail
  go_ret
  exact ⟨rfl, belowD HB0.out _⟩
set_option maxHeartbeats 2000000 in
set_option maxRecDepth 100000 in
theorem create_bad (ρ : Roles) (nb : Int → Nat) (mb : Nat) (rt : Option Nat) (w : World) (q : Nat) (R : List RN) (last : Int) (h : Dom ρ nb mb rt w q R last) (kd id pa bf ky : Int) (tg nm tx : ByteArray) (hl0 : 0 ≤ last) (hl1 : last ≤ 4611686018427387904) (hst : tg.size ≤ maxLen) (hsx : tx.size ≤ maxLen) (hlen : R.length < 800) (hid : id = last + 1) (hel : elB (nodOf tg ky tx) = false) (htn : txB (nodOf tg ky tx) = false) :
    Calls Tryz.prog 86 #[.pointer (some ⟨q, 0, none⟩), .agg #[.int .i64 kd, .int .i64 id, .int .i64 pa, .int .i64 bf, .int .i64 ky, .string tg, .string nm, .string tx]] w fun e w' => e = .returned (.bool false) ∧ Below w.heap.size w w' := by
  have HEl : Hid (∀ w1, Calls Tryz.prog 77 #[.agg #[.int .i64 0, .string tg, .int .i64 ky, .slice none 0 0, .string tx]] w1 fun e w' => e = .returned (.bool false) ∧ Below w1.heap.size w1 w') := hide fun w1 => by
    have := isElement_any (nodOf tg ky tx) w1 (nodOf_ok w1 ky hst hsx)
    rw [hel] at this
    exact this
  have HTx : Hid (∀ w1, Calls Tryz.prog 79 #[.agg #[.int .i64 0, .string tg, .int .i64 ky, .slice none 0 0, .string tx]] w1 fun e w' => e = .returned (.bool false) ∧ Below w1.heap.size w1 w') := hide fun w1 => by
    have := isTextNode_any (nodOf tg ky tx) w1 (nodOf_ok w1 ky hst hsx)
    rw [htn] at this
    exact this
  have hne : (id != last + 1) = false := by rw [hid]; simp
  have hwrap : IntKind.i64.wrap (last + 1) = last + 1 := by rw [IntKind.wrap_i64]; omega
  clear hid
  have d1 : w.cell? ⟨q, 1, none⟩ = some (.map (some mb)) := cell_of_blk h.blk 1 _ rfl
  have d2 : w.cell? ⟨q, 2, none⟩ = some (.int .i64 last) := cell_of_blk h.blk 2 _ rfl
  have ltq := lt_of_blk h.blk
  have hfew := h.few
  have HD := hide h
  clear h
  go_enter Tryz.func86, Tryz.ntmps86
  go_wp2_with fail
  generalize hw0 : (w.alloc (.cells #[.int .i64 kd, .int .i64 id, .int .i64 pa, .int .i64 bf, .int .i64 ky, .string tg, .string nm, .string tx] 29)).alloc (.cells #[.int .i64 0, .string tg, .int .i64 ky, .slice none 0 0, .string tx] 33) = w0
  have hb0 : Below w.heap.size w w0 := by rw [← hw0]; exact ((Below.refl _ _).alloc (Nat.le_refl _) _).alloc (by simp) _
  have hs0 : w0.heap.size = w.heap.size + 2 := by rw [← hw0]; simp
  have x1 : w0.cell? ⟨w.heap.size, 1, none⟩ = some (.int .i64 id) := by rw [← hw0]; simp [go_sem]
  have n0 : w0.cell? ⟨w.heap.size + 1, 0, none⟩ = some (.int .i64 0) := by rw [← hw0]; simp [go_sem]
  have n1 : w0.cell? ⟨w.heap.size + 1, 1, none⟩ = some (.string tg) := by rw [← hw0]; simp [go_sem]
  have n2 : w0.cell? ⟨w.heap.size + 1, 2, none⟩ = some (.int .i64 ky) := by rw [← hw0]; simp [go_sem]
  have n3 : w0.cell? ⟨w.heap.size + 1, 3, none⟩ = some (.slice none 0 0) := by rw [← hw0]; simp [go_sem]
  have n4 : w0.cell? ⟨w.heap.size + 1, 4, none⟩ = some (.string tx) := by rw [← hw0]; simp [go_sem]
  have y1 : w0.cell? ⟨q, 1, none⟩ = some (.map (some mb)) := (hb0.cell (p := ⟨q, 1, none⟩) ltq).trans d1
  have y2 : w0.cell? ⟨q, 2, none⟩ = some (.int .i64 last) := (hb0.cell (p := ⟨q, 2, none⟩) ltq).trans d2
  have HB0 := hide hb0
  have HS0 := hide hs0
  have lq0 : q < w0.heap.size := by omega
  have lw0 : w.heap.size < w0.heap.size := by omega
  have lt0 : w.heap.size + 1 < w0.heap.size := by omega
  have hlen0 : ∀ ty, (Builtin.len_ #[111] ty #[.map (some mb)]).run Tryz.prog w0.drew = .ok (.int .i64 R.length) w0.drew := fun ty => (HD.out.map.heap (w' := w0.drew) (HB0.out.block mb HD.out.map.lt)).len ty
  have HLn : Hid (∀ w1 w2, Below w.heap.size w w1 → Below w1.heap.size w1 w2 → ∀ ty, (Builtin.len_ #[111] ty #[.map (some mb)]).run Tryz.prog w2 = .ok (.int .i64 R.length) w2) := hide fun w1 w2 h1 h2 ty => (HD.out.map.heap (w' := w2) ((h2.block mb (Nat.lt_of_lt_of_le HD.out.map.lt h1.size)).trans (h1.block mb HD.out.map.lt))).len ty
  have hlt8 : ¬ (800 : Int) ≤ (R.length : Int) := by omega
  have hge8 : decide ((800 : Int) ≤ (R.length : Int)) = false := decide_eq_false hlt8
  clear hw0 hb0 hs0 d1 d2
  go_region_held3 (fun w' => w'.cell? ⟨w.heap.size, 1, none⟩ = some (.int .i64 id) ∧ w'.cell? ⟨q, 2, none⟩ = some (.int .i64 last) ∧ w'.cell? ⟨q, 1, none⟩ = some (.map (some mb)) ∧ (∀ ty, (Builtin.len_ #[111] ty #[.map (some mb)]).run Tryz.prog w' = .ok (.int .i64 R.length) w') ∧ w'.cell? ⟨w.heap.size + 1, 0, none⟩ = some (.int .i64 0) ∧ w'.cell? ⟨w.heap.size + 1, 1, none⟩ = some (.string tg) ∧ w'.cell? ⟨w.heap.size + 1, 2, none⟩ = some (.int .i64 ky) ∧ w'.cell? ⟨w.heap.size + 1, 3, none⟩ = some (.slice none 0 0) ∧ w'.cell? ⟨w.heap.size + 1, 4, none⟩ = some (.string tx))
    (first
      | go_keep
      | (go_split_ands
         refine ⟨?_, ?_, ?_, ?_, ?_, ?_, ?_, ?_, ?_⟩
         · (rw [hb6.cell (by simp; omega)]; assumption)
         · (rw [hb6.cell (by simp; omega)]; assumption)
         · (rw [hb6.cell (by simp; omega)]; assumption)
         · exact unhide HLn _ _ (unhide HB0).drew hb6
         · (rw [hb6.cell (by simp; omega)]; assumption)
         · (rw [hb6.cell (by simp; omega)]; assumption)
         · (rw [hb6.cell (by simp; omega)]; assumption)
         · (rw [hb6.cell (by simp; omega)]; assumption)
         · (rw [hb6.cell (by simp; omega)]; assumption))
      | (go_split_ands
         refine ⟨?_, ?_, ?_, ?_, ?_, ?_, ?_, ?_, ?_⟩
         · (rw [hb7.cell (by simp; omega)]; assumption)
         · (rw [hb7.cell (by simp; omega)]; assumption)
         · (rw [hb7.cell (by simp; omega)]; assumption)
         · exact unhide HLn _ _ ((unhide HB0).drew.trans (hb6.mono (unhide HB0).size)) hb7
         · (rw [hb7.cell (by simp; omega)]; assumption)
         · (rw [hb7.cell (by simp; omega)]; assumption)
         · (rw [hb7.cell (by simp; omega)]; assumption)
         · (rw [hb7.cell (by simp; omega)]; assumption)
         · (rw [hb7.cell (by simp; omega)]; assumption)))
    (first | (go_at_call 77; refine (unhide HEl _).mono ?_; rintro e w5 ⟨rfl, hb6⟩; have ls6 : w0.heap.size ≤ w5.heap.size := hb6.size) | (go_at_call 79; refine (unhide HTx _).mono ?_; rintro e w6 ⟨rfl, hb7⟩; have ls7 : w5.heap.size ≤ w6.heap.size := hb7.size))
  go_wp2_with fail
  go_ret
  have hbA := HB0.out.drew.trans (hb6.mono HB0.out.size)
  exact ⟨rfl, hbA.trans (hb7.mono hbA.size)⟩
set_option maxHeartbeats 2000000 in
set_option maxRecDepth 100000 in
theorem create_elem (ρ : Roles) (nb : Int → Nat) (mb : Nat) (rt : Option Nat) (w : World) (q : Nat) (R : List RN) (last : Int) (h : Dom ρ nb mb rt w q R last) (kd id pa bf ky : Int) (tg nm tx : ByteArray) (hl0 : 0 ≤ last) (hl1 : last ≤ 4611686018427387904) (hst : tg.size ≤ maxLen) (hsx : tx.size ≤ maxLen) (hlen : R.length < 800) (hI : Ids R) (htop : ∀ n, n ∈ R → n.id ≤ last ∧ 0 ≤ n.par ∧ n.par ≤ last) (hst' : tg.size ≤ 1000000) (hsx' : tx.size ≤ 1000000) (hid : id = last + 1) (hel : elB (nodOf tg ky tx) = true) :
    Calls Tryz.prog 86 #[.pointer (some ⟨q, 0, none⟩), .agg #[.int .i64 kd, .int .i64 id, .int .i64 pa, .int .i64 bf, .int .i64 ky, .string tg, .string nm, .string tx]] w fun e w' => e = .returned (.bool true) ∧ ∃ (nb' : Int → Nat) (ρ' : Roles), (∀ i, i ≠ last + 1 → nb' i = nb i) ∧ w.heap.size ≤ nb' (last + 1) ∧ Wrote ρ ρ' w w' ∧ Dom ρ' nb' mb rt w' q (R ++ [{ id := last + 1, par := 0, tag := tg, key := ky, text := tx, ats := [], ao := none, an := 0, ac := 0 }]) (last + 1) := by
  have HEl : Hid (∀ w1, Calls Tryz.prog 77 #[.agg #[.int .i64 0, .string tg, .int .i64 ky, .slice none 0 0, .string tx]] w1 fun e w' => e = .returned (.bool true) ∧ Below w1.heap.size w1 w') := hide fun w1 => by
    have := isElement_any (nodOf tg ky tx) w1 (nodOf_ok w1 ky hst hsx)
    rw [hel] at this
    exact this
  have HAdd : Hid (∀ w1, Below w.heap.size w w1 → Calls Tryz.prog 43 #[.pointer (some ⟨q, 0, none⟩), .agg #[.int .i64 0, .string tg, .int .i64 ky, .slice none 0 0, .string tx]] w1 (AddPost ρ nb mb rt w1 q R last { id := last + 1, par := 0, tag := tg, key := ky, text := tx, ats := [], ao := none, an := 0, ac := 0 })) := hide fun w1 hb => add_any ρ nb mb rt w1 q R last (h.below hb) 0 ky tg tx none 0 0 [] rfl (by omega) List.Pairwise.nil (fun j hj => absurd hj (Nat.not_lt_zero _)) hl0 hl1 hI htop hlen hst' hsx' (fun x hx => by simp at hx)
  have hne : (id != last + 1) = false := by rw [hid]; simp
  have hwrap : IntKind.i64.wrap (last + 1) = last + 1 := by rw [IntKind.wrap_i64]; omega
  clear hid
  have d1 : w.cell? ⟨q, 1, none⟩ = some (.map (some mb)) := cell_of_blk h.blk 1 _ rfl
  have d2 : w.cell? ⟨q, 2, none⟩ = some (.int .i64 last) := cell_of_blk h.blk 2 _ rfl
  have ltq := lt_of_blk h.blk
  have hfew := h.few
  have HD := hide h
  clear h
  go_enter Tryz.func86, Tryz.ntmps86
  go_wp2_with fail
  generalize hw0 : (w.alloc (.cells #[.int .i64 kd, .int .i64 id, .int .i64 pa, .int .i64 bf, .int .i64 ky, .string tg, .string nm, .string tx] 29)).alloc (.cells #[.int .i64 0, .string tg, .int .i64 ky, .slice none 0 0, .string tx] 33) = w0
  have hb0 : Below w.heap.size w w0 := by rw [← hw0]; exact ((Below.refl _ _).alloc (Nat.le_refl _) _).alloc (by simp) _
  have hs0 : w0.heap.size = w.heap.size + 2 := by rw [← hw0]; simp
  have x1 : w0.cell? ⟨w.heap.size, 1, none⟩ = some (.int .i64 id) := by rw [← hw0]; simp [go_sem]
  have n0 : w0.cell? ⟨w.heap.size + 1, 0, none⟩ = some (.int .i64 0) := by rw [← hw0]; simp [go_sem]
  have n1 : w0.cell? ⟨w.heap.size + 1, 1, none⟩ = some (.string tg) := by rw [← hw0]; simp [go_sem]
  have n2 : w0.cell? ⟨w.heap.size + 1, 2, none⟩ = some (.int .i64 ky) := by rw [← hw0]; simp [go_sem]
  have n3 : w0.cell? ⟨w.heap.size + 1, 3, none⟩ = some (.slice none 0 0) := by rw [← hw0]; simp [go_sem]
  have n4 : w0.cell? ⟨w.heap.size + 1, 4, none⟩ = some (.string tx) := by rw [← hw0]; simp [go_sem]
  have y1 : w0.cell? ⟨q, 1, none⟩ = some (.map (some mb)) := (hb0.cell (p := ⟨q, 1, none⟩) ltq).trans d1
  have y2 : w0.cell? ⟨q, 2, none⟩ = some (.int .i64 last) := (hb0.cell (p := ⟨q, 2, none⟩) ltq).trans d2
  have HB0 := hide hb0
  have HS0 := hide hs0
  have lq0 : q < w0.heap.size := by omega
  have lw0 : w.heap.size < w0.heap.size := by omega
  have lt0 : w.heap.size + 1 < w0.heap.size := by omega
  have hlen0 : ∀ ty, (Builtin.len_ #[111] ty #[.map (some mb)]).run Tryz.prog w0.drew = .ok (.int .i64 R.length) w0.drew := fun ty => (HD.out.map.heap (w' := w0.drew) (HB0.out.block mb HD.out.map.lt)).len ty
  have HLn : Hid (∀ w1 w2, Below w.heap.size w w1 → Below w1.heap.size w1 w2 → ∀ ty, (Builtin.len_ #[111] ty #[.map (some mb)]).run Tryz.prog w2 = .ok (.int .i64 R.length) w2) := hide fun w1 w2 h1 h2 ty => (HD.out.map.heap (w' := w2) ((h2.block mb (Nat.lt_of_lt_of_le HD.out.map.lt h1.size)).trans (h1.block mb HD.out.map.lt))).len ty
  have hlt8 : ¬ (800 : Int) ≤ (R.length : Int) := by omega
  have hge8 : decide ((800 : Int) ≤ (R.length : Int)) = false := decide_eq_false hlt8
  clear hw0 hb0 hs0 d1 d2
  have hS0 : (fun w' => w'.cell? ⟨w.heap.size, 1, none⟩ = some (.int .i64 id) ∧ w'.cell? ⟨q, 2, none⟩ = some (.int .i64 last) ∧ w'.cell? ⟨q, 1, none⟩ = some (.map (some mb)) ∧ (∀ ty, (Builtin.len_ #[111] ty #[.map (some mb)]).run Tryz.prog w' = .ok (.int .i64 R.length) w') ∧ w'.cell? ⟨w.heap.size + 1, 0, none⟩ = some (.int .i64 0) ∧ w'.cell? ⟨w.heap.size + 1, 1, none⟩ = some (.string tg) ∧ w'.cell? ⟨w.heap.size + 1, 2, none⟩ = some (.int .i64 ky) ∧ w'.cell? ⟨w.heap.size + 1, 3, none⟩ = some (.slice none 0 0) ∧ w'.cell? ⟨w.heap.size + 1, 4, none⟩ = some (.string tx)) w0.drew := ⟨x1, y2, y1, hlen0, n0, n1, n2, n3, n4⟩
  refine wp_region_last (S := (fun w' => w'.cell? ⟨w.heap.size, 1, none⟩ = some (.int .i64 id) ∧ w'.cell? ⟨q, 2, none⟩ = some (.int .i64 last) ∧ w'.cell? ⟨q, 1, none⟩ = some (.map (some mb)) ∧ (∀ ty, (Builtin.len_ #[111] ty #[.map (some mb)]).run Tryz.prog w' = .ok (.int .i64 R.length) w') ∧ w'.cell? ⟨w.heap.size + 1, 0, none⟩ = some (.int .i64 0) ∧ w'.cell? ⟨w.heap.size + 1, 1, none⟩ = some (.string tg) ∧ w'.cell? ⟨w.heap.size + 1, 2, none⟩ = some (.int .i64 ky) ∧ w'.cell? ⟨w.heap.size + 1, 3, none⟩ = some (.slice none 0 0) ∧ w'.cell? ⟨w.heap.size + 1, 4, none⟩ = some (.string tx))) (by kernel_rfl) ?_
  refine wpAnyT_take (i := 0) (v := ?v0) rfl (by kernel_rfl) (by kernel_rfl) (by kernel_rfl) (by kernel_rfl) (fun _ _ _ h => h) (Or.inl ⟨by rfl, ?hy0⟩) hS0 ?r0
  case hy0 => (intro w' hSw; (try dsimp only at hSw); simp only [List.getElem_toArray, List.getElem_cons_zero]; go_simp; try (with_reducible rfl))
  simp only [List.getElem_toArray, List.getElem_cons_zero, Act.put, List.setIfInBounds_toArray, List.set_cons_zero, List.set_cons_succ]
  refine wpAnyT_take (i := 1) (v := ?v1) rfl (by kernel_rfl) (by kernel_rfl) (by kernel_rfl) (by kernel_rfl) (fun _ _ _ h => h) (Or.inl ⟨by rfl, ?hy1⟩) hS0 ?r1
  case hy1 => (intro w' hSw; (try dsimp only at hSw); simp only [List.getElem_toArray, List.getElem_cons_zero, List.getElem_cons_succ]; go_simp; try (with_reducible rfl))
  simp only [List.getElem_toArray, List.getElem_cons_zero, List.getElem_cons_succ, Act.put, List.setIfInBounds_toArray, List.set_cons_zero, List.set_cons_succ]
  refine wpAnyT_take (i := 2) (v := ?v2) rfl (by kernel_rfl) (by kernel_rfl) (by kernel_rfl) (by kernel_rfl) (fun _ _ _ h => h) (Or.inl ⟨by rfl, ?hy2⟩) hS0 ?r2
  case hy2 => (intro w' hSw; (try dsimp only at hSw); simp only [List.getElem_toArray, List.getElem_cons_zero, List.getElem_cons_succ]; go_simp; try (with_reducible rfl))
  simp only [List.getElem_toArray, List.getElem_cons_zero, List.getElem_cons_succ, Act.put, List.setIfInBounds_toArray, List.set_cons_zero, List.set_cons_succ]
  refine wpAnyT_take (i := 3) (v := ?v3) rfl (by kernel_rfl) (by kernel_rfl) (by kernel_rfl) (by kernel_rfl) (fun _ _ _ h => h) (Or.inl ⟨by rfl, ?hy3⟩) hS0 ?r3
  case hy3 => (intro w' hSw; (try dsimp only at hSw); simp only [List.getElem_toArray, List.getElem_cons_zero, List.getElem_cons_succ]; go_simp; try (with_reducible rfl))
  simp only [List.getElem_toArray, List.getElem_cons_zero, List.getElem_cons_succ, Act.put, List.setIfInBounds_toArray, List.set_cons_zero, List.set_cons_succ]
  refine wpAnyT_take (i := 4) (v := ?v4) rfl (by kernel_rfl) (by kernel_rfl) (by kernel_rfl) (by kernel_rfl) (fun _ _ _ h => h) (Or.inl ⟨by rfl, ?hy4⟩) hS0 ?r4
  case hy4 => (intro w' hSw; (try dsimp only at hSw); simp only [List.getElem_toArray, List.getElem_cons_zero, List.getElem_cons_succ]; go_simp; try (with_reducible rfl))
  simp only [List.getElem_toArray, List.getElem_cons_zero, List.getElem_cons_succ, Act.put, List.setIfInBounds_toArray, List.set_cons_zero, List.set_cons_succ]
  refine wpAnyT_take (i := 5) (v := ?v5) rfl (by kernel_rfl) (by kernel_rfl) (by kernel_rfl) (by kernel_rfl) (fun _ _ _ h => h) (Or.inl ⟨by rfl, ?hy5⟩) hS0 ?r5
  case hy5 => (intro w' hSw; (try dsimp only at hSw); simp only [List.getElem_toArray, List.getElem_cons_zero, List.getElem_cons_succ]; go_simp; try (with_reducible rfl))
  simp only [List.getElem_toArray, List.getElem_cons_zero, List.getElem_cons_succ, Act.put, List.setIfInBounds_toArray, List.set_cons_zero, List.set_cons_succ]
  refine wpAnyT_take (i := 6) (v := ?v6) rfl (by kernel_rfl) (by kernel_rfl) (by kernel_rfl) (by kernel_rfl) (fun _ _ _ h => h) (Or.inl ⟨by rfl, ?hy6⟩) hS0 ?r6
  case hy6 => (intro w' hSw; (try dsimp only at hSw); simp only [List.getElem_toArray, List.getElem_cons_zero, List.getElem_cons_succ]; go_simp; try (with_reducible rfl))
  simp only [List.getElem_toArray, List.getElem_cons_zero, List.getElem_cons_succ, Act.put, List.setIfInBounds_toArray, List.set_cons_zero, List.set_cons_succ]
  refine wpAnyT_take (i := 7) (v := ?v7) rfl (by kernel_rfl) (by kernel_rfl) (by kernel_rfl) (by kernel_rfl) (fun _ _ _ h => h) (Or.inl ⟨by rfl, ?hy7⟩) hS0 ?r7
  case hy7 => (intro w' hSw; (try dsimp only at hSw); simp only [List.getElem_toArray, List.getElem_cons_zero, List.getElem_cons_succ]; go_simp; try (with_reducible rfl))
  simp only [List.getElem_toArray, List.getElem_cons_zero, List.getElem_cons_succ, Act.put, List.setIfInBounds_toArray, List.set_cons_zero, List.set_cons_succ]
  refine wpAnyT_take (i := 8) (v := ?v8) rfl (by kernel_rfl) (by kernel_rfl) (by kernel_rfl) (by kernel_rfl) (fun _ _ _ h => h) (Or.inl ⟨by rfl, ?hy8⟩) hS0 ?r8
  case hy8 => (intro w' hSw; (try dsimp only at hSw); simp only [List.getElem_toArray, List.getElem_cons_zero, List.getElem_cons_succ]; go_simp; try (with_reducible rfl))
  simp only [List.getElem_toArray, List.getElem_cons_zero, List.getElem_cons_succ, Act.put, List.setIfInBounds_toArray, List.set_cons_zero, List.set_cons_succ]
  refine wpAnyT_take (i := 9) (v := ?v9) rfl (by kernel_rfl) (by kernel_rfl) (by kernel_rfl) (by kernel_rfl) (fun _ _ _ h => h) (Or.inl ⟨by rfl, ?hy9⟩) hS0 ?r9
  case hy9 => (intro w' hSw; (try dsimp only at hSw); simp only [List.getElem_toArray, List.getElem_cons_zero, List.getElem_cons_succ]; go_simp; try (with_reducible rfl))
  simp only [List.getElem_toArray, List.getElem_cons_zero, List.getElem_cons_succ, Act.put, List.setIfInBounds_toArray, List.set_cons_zero, List.set_cons_succ]
  refine wpAnyT_take (i := 10) (v := ?v10) rfl (by kernel_rfl) (by kernel_rfl) (by kernel_rfl) (by kernel_rfl) (fun _ _ _ h => h) (Or.inl ⟨by rfl, ?hy10⟩) hS0 ?r10
  case hy10 => (intro w' hSw; (try dsimp only at hSw); simp only [List.getElem_toArray, List.getElem_cons_zero, List.getElem_cons_succ]; go_simp; try (with_reducible rfl))
  simp only [List.getElem_toArray, List.getElem_cons_zero, List.getElem_cons_succ, Act.put, List.setIfInBounds_toArray, List.set_cons_zero, List.set_cons_succ]
  refine wpAnyT_take (i := 11) (v := ?v11) rfl (by kernel_rfl) (by kernel_rfl) (by kernel_rfl) (by kernel_rfl) (fun _ _ _ h => h) (Or.inl ⟨by rfl, ?hy11⟩) hS0 ?r11
  case hy11 => (intro w' hSw; (try dsimp only at hSw); simp only [List.getElem_toArray, List.getElem_cons_zero, List.getElem_cons_succ]; go_simp; try (with_reducible rfl))
  simp only [List.getElem_toArray, List.getElem_cons_zero, List.getElem_cons_succ, Act.put, List.setIfInBounds_toArray, List.set_cons_zero, List.set_cons_succ]
  refine wpAnyT_take (i := 12) (v := ?v12) rfl (by kernel_rfl) (by kernel_rfl) (by kernel_rfl) (by kernel_rfl) (fun _ _ _ h => h) (Or.inl ⟨by rfl, ?hy12⟩) hS0 ?r12
  case hy12 => (intro w' hSw; (try dsimp only at hSw); simp only [List.getElem_toArray, List.getElem_cons_zero, List.getElem_cons_succ]; go_simp; try (with_reducible rfl))
  simp only [List.getElem_toArray, List.getElem_cons_zero, List.getElem_cons_succ, Act.put, List.setIfInBounds_toArray, List.set_cons_zero, List.set_cons_succ]
  refine wpAnyT_take (i := 13) (v := ?v13) rfl (by kernel_rfl) (by kernel_rfl) (by kernel_rfl) (by kernel_rfl) (fun _ _ _ h => h) (Or.inl ⟨by rfl, ?hy13⟩) hS0 ?r13
  case hy13 => (intro w' hSw; (try dsimp only at hSw); simp only [List.getElem_toArray, List.getElem_cons_zero, List.getElem_cons_succ]; go_simp; try (with_reducible rfl))
  simp only [List.getElem_toArray, List.getElem_cons_zero, List.getElem_cons_succ, Act.put, List.setIfInBounds_toArray, List.set_cons_zero, List.set_cons_succ]
  refine wpAnyT_take (i := 14) (v := ?v14) rfl (by kernel_rfl) (by kernel_rfl) (by kernel_rfl) (by kernel_rfl) (fun _ _ _ h => h) (Or.inl ⟨by rfl, ?hy14⟩) hS0 ?r14
  case hy14 => (intro w' hSw; (try dsimp only at hSw); simp only [List.getElem_toArray, List.getElem_cons_zero, List.getElem_cons_succ]; go_simp; try (with_reducible rfl))
  simp only [List.getElem_toArray, List.getElem_cons_zero, List.getElem_cons_succ, Act.put, List.setIfInBounds_toArray, List.set_cons_zero, List.set_cons_succ]
  refine wpAnyT_take (i := 15) (v := ?v15) rfl (by kernel_rfl) (by kernel_rfl) (by kernel_rfl) (by kernel_rfl) (fun _ _ _ h => h) (Or.inl ⟨by rfl, ?hy15⟩) hS0 ?r15
  case hy15 => (intro w' hSw; (try dsimp only at hSw); simp only [List.getElem_toArray, List.getElem_cons_zero, List.getElem_cons_succ]; go_simp; try (with_reducible rfl))
  simp only [List.getElem_toArray, List.getElem_cons_zero, List.getElem_cons_succ, Act.put, List.setIfInBounds_toArray, List.set_cons_zero, List.set_cons_succ]
  refine wpAnyT_take (i := 16) (v := ?v16) rfl (by kernel_rfl) (by kernel_rfl) (by kernel_rfl) (by kernel_rfl) (fun _ _ _ h => h) (Or.inl ⟨by rfl, ?hy16⟩) hS0 ?r16
  case hy16 => (intro w' hSw; (try dsimp only at hSw); simp only [List.getElem_toArray, List.getElem_cons_zero, List.getElem_cons_succ]; go_simp; try (with_reducible rfl))
  simp only [List.getElem_toArray, List.getElem_cons_zero, List.getElem_cons_succ, Act.put, List.setIfInBounds_toArray, List.set_cons_zero, List.set_cons_succ]
  refine wpAnyT_take (i := 17) (v := ?v17) rfl (by kernel_rfl) (by kernel_rfl) (by kernel_rfl) (by kernel_rfl) (fun _ _ _ h => h) (Or.inl ⟨by rfl, ?hy17⟩) hS0 ?r17
  case hy17 => (intro w' hSw; (try dsimp only at hSw); simp only [List.getElem_toArray, List.getElem_cons_zero, List.getElem_cons_succ]; go_simp; try (with_reducible rfl))
  simp only [List.getElem_toArray, List.getElem_cons_zero, List.getElem_cons_succ, Act.put, List.setIfInBounds_toArray, List.set_cons_zero, List.set_cons_succ]
  refine wpAnyT_one (i := 18) rfl (by kernel_rfl) (by rfl) ?_
  simp only [List.getElem_toArray, List.getElem_cons_zero, List.getElem_cons_succ]
  go_simp
  refine (unhide HEl _).mono ?_
  rintro e w5 ⟨rfl, hb6⟩
  have ls6 : w0.heap.size ≤ w5.heap.size := hb6.size
  have x1' := (hb6.cell (p := ⟨w.heap.size, 1, none⟩) lw0).trans x1
  have y2' := (hb6.cell (p := ⟨q, 2, none⟩) lq0).trans y2
  have y1' := (hb6.cell (p := ⟨q, 1, none⟩) lq0).trans y1
  have m0 := (hb6.cell (p := ⟨w.heap.size + 1, 0, none⟩) lt0).trans n0
  have m1 := (hb6.cell (p := ⟨w.heap.size + 1, 1, none⟩) lt0).trans n1
  have m2 := (hb6.cell (p := ⟨w.heap.size + 1, 2, none⟩) lt0).trans n2
  have m3 := (hb6.cell (p := ⟨w.heap.size + 1, 3, none⟩) lt0).trans n3
  have m4 := (hb6.cell (p := ⟨w.heap.size + 1, 4, none⟩) lt0).trans n4
  have hS1 : (fun w' => w'.cell? ⟨w.heap.size, 1, none⟩ = some (.int .i64 id) ∧ w'.cell? ⟨q, 2, none⟩ = some (.int .i64 last) ∧ w'.cell? ⟨q, 1, none⟩ = some (.map (some mb)) ∧ (∀ ty, (Builtin.len_ #[111] ty #[.map (some mb)]).run Tryz.prog w' = .ok (.int .i64 R.length) w') ∧ w'.cell? ⟨w.heap.size + 1, 0, none⟩ = some (.int .i64 0) ∧ w'.cell? ⟨w.heap.size + 1, 1, none⟩ = some (.string tg) ∧ w'.cell? ⟨w.heap.size + 1, 2, none⟩ = some (.int .i64 ky) ∧ w'.cell? ⟨w.heap.size + 1, 3, none⟩ = some (.slice none 0 0) ∧ w'.cell? ⟨w.heap.size + 1, 4, none⟩ = some (.string tx)) w5 := ⟨x1', y2', y1', unhide HLn _ _ (unhide HB0).drew hb6, m0, m1, m2, m3, m4⟩
  have HBA : Hid (Below w.heap.size w w5) := hide (HB0.out.drew.trans (hb6.mono HB0.out.size))
  refine ⟨.inr hS1, ?_⟩
  clear hb6 hS0
  try simp only [Act.put, List.setIfInBounds_toArray, List.set_cons_zero, List.set_cons_succ]
  refine wpAnyT_one (i := 19) rfl (by kernel_rfl) (by rfl) ?_
  simp only [List.getElem_toArray, List.getElem_cons_zero, List.getElem_cons_succ]
  go_simp
  refine wpAnyT_one (i := 20) rfl (by kernel_rfl) (by rfl) ?_
  simp only [List.getElem_toArray, List.getElem_cons_zero, List.getElem_cons_succ]
  go_simp
  refine wpAnyT_take (i := 21) (v := undef) rfl (by kernel_rfl) (by kernel_rfl) (by kernel_rfl) (by kernel_rfl) (fun _ _ _ h => h) (Or.inr ⟨by rfl, rfl⟩) hS1 ?_
  try simp only [List.getElem_toArray, List.getElem_cons_zero, List.getElem_cons_succ, Act.put, List.setIfInBounds_toArray, List.set_cons_zero, List.set_cons_succ]
  refine wpAnyT_take (i := 22) (v := undef) rfl (by kernel_rfl) (by kernel_rfl) (by kernel_rfl) (by kernel_rfl) (fun _ _ _ h => h) (Or.inr ⟨by rfl, rfl⟩) hS1 ?_
  try simp only [List.getElem_toArray, List.getElem_cons_zero, List.getElem_cons_succ, Act.put, List.setIfInBounds_toArray, List.set_cons_zero, List.set_cons_succ]
  refine wpAnyT_take (i := 23) (v := undef) rfl (by kernel_rfl) (by kernel_rfl) (by kernel_rfl) (by kernel_rfl) (fun _ _ _ h => h) (Or.inr ⟨by rfl, rfl⟩) hS1 ?_
  try simp only [List.getElem_toArray, List.getElem_cons_zero, List.getElem_cons_succ, Act.put, List.setIfInBounds_toArray, List.set_cons_zero, List.set_cons_succ]
  refine wpAnyT_one (i := 24) rfl (by kernel_rfl) (by rfl) ?_
  simp only [List.getElem_toArray, List.getElem_cons_zero, List.getElem_cons_succ]
  go_simp
  refine wpAnyT_one (i := 25) rfl (by kernel_rfl) (by rfl) ?_
  simp only [List.getElem_toArray, List.getElem_cons_zero, List.getElem_cons_succ]
  go_simp
  refine wpAnyT_done (by kernel_rfl) ?_ _
  go_wp2_with (first | (go_at_call 43; refine (unhide HAdd _ (unhide HBA)).mono ?_; rintro e wA ⟨nb', ρ', rfl, hn1, hn2, hW, hDm⟩; have HN1 := hide hn1; have HN2 := hide hn2; have HWr := hide hW; have HDm := hide hDm; clear hn1 hn2 hW hDm))
  go_ret
  exact ⟨rfl, nb', ρ', HN1.out, Nat.le_trans HBA.out.size HN2.out, HWr.out.after HBA.out, HDm.out⟩
set_option maxHeartbeats 2000000 in
set_option maxRecDepth 100000 in
theorem create_text (ρ : Roles) (nb : Int → Nat) (mb : Nat) (rt : Option Nat) (w : World) (q : Nat) (R : List RN) (last : Int) (h : Dom ρ nb mb rt w q R last) (kd id pa bf ky : Int) (tg nm tx : ByteArray) (hl0 : 0 ≤ last) (hl1 : last ≤ 4611686018427387904) (hst : tg.size ≤ maxLen) (hsx : tx.size ≤ maxLen) (hlen : R.length < 800) (hI : Ids R) (htop : ∀ n, n ∈ R → n.id ≤ last ∧ 0 ≤ n.par ∧ n.par ≤ last) (hst' : tg.size ≤ 1000000) (hsx' : tx.size ≤ 1000000) (hid : id = last + 1) (hel : elB (nodOf tg ky tx) = false) (htn : txB (nodOf tg ky tx) = true) :
    Calls Tryz.prog 86 #[.pointer (some ⟨q, 0, none⟩), .agg #[.int .i64 kd, .int .i64 id, .int .i64 pa, .int .i64 bf, .int .i64 ky, .string tg, .string nm, .string tx]] w fun e w' => e = .returned (.bool true) ∧ ∃ (nb' : Int → Nat) (ρ' : Roles), (∀ i, i ≠ last + 1 → nb' i = nb i) ∧ w.heap.size ≤ nb' (last + 1) ∧ Wrote ρ ρ' w w' ∧ Dom ρ' nb' mb rt w' q (R ++ [{ id := last + 1, par := 0, tag := tg, key := ky, text := tx, ats := [], ao := none, an := 0, ac := 0 }]) (last + 1) := by
  have HEl : Hid (∀ w1, Calls Tryz.prog 77 #[.agg #[.int .i64 0, .string tg, .int .i64 ky, .slice none 0 0, .string tx]] w1 fun e w' => e = .returned (.bool false) ∧ Below w1.heap.size w1 w') := hide fun w1 => by
    have := isElement_any (nodOf tg ky tx) w1 (nodOf_ok w1 ky hst hsx)
    rw [hel] at this
    exact this
  have HTx : Hid (∀ w1, Calls Tryz.prog 79 #[.agg #[.int .i64 0, .string tg, .int .i64 ky, .slice none 0 0, .string tx]] w1 fun e w' => e = .returned (.bool true) ∧ Below w1.heap.size w1 w') := hide fun w1 => by
    have := isTextNode_any (nodOf tg ky tx) w1 (nodOf_ok w1 ky hst hsx)
    rw [htn] at this
    exact this
  have HAdd : Hid (∀ w1, Below w.heap.size w w1 → Calls Tryz.prog 43 #[.pointer (some ⟨q, 0, none⟩), .agg #[.int .i64 0, .string tg, .int .i64 ky, .slice none 0 0, .string tx]] w1 (AddPost ρ nb mb rt w1 q R last { id := last + 1, par := 0, tag := tg, key := ky, text := tx, ats := [], ao := none, an := 0, ac := 0 })) := hide fun w1 hb => add_any ρ nb mb rt w1 q R last (h.below hb) 0 ky tg tx none 0 0 [] rfl (by omega) List.Pairwise.nil (fun j hj => absurd hj (Nat.not_lt_zero _)) hl0 hl1 hI htop hlen hst' hsx' (fun x hx => by simp at hx)
  have hne : (id != last + 1) = false := by rw [hid]; simp
  have hwrap : IntKind.i64.wrap (last + 1) = last + 1 := by rw [IntKind.wrap_i64]; omega
  clear hid
  have d1 : w.cell? ⟨q, 1, none⟩ = some (.map (some mb)) := cell_of_blk h.blk 1 _ rfl
  have d2 : w.cell? ⟨q, 2, none⟩ = some (.int .i64 last) := cell_of_blk h.blk 2 _ rfl
  have ltq := lt_of_blk h.blk
  have hfew := h.few
  have HD := hide h
  clear h
  go_enter Tryz.func86, Tryz.ntmps86
  go_wp2_with fail
  generalize hw0 : (w.alloc (.cells #[.int .i64 kd, .int .i64 id, .int .i64 pa, .int .i64 bf, .int .i64 ky, .string tg, .string nm, .string tx] 29)).alloc (.cells #[.int .i64 0, .string tg, .int .i64 ky, .slice none 0 0, .string tx] 33) = w0
  have hb0 : Below w.heap.size w w0 := by rw [← hw0]; exact ((Below.refl _ _).alloc (Nat.le_refl _) _).alloc (by simp) _
  have hs0 : w0.heap.size = w.heap.size + 2 := by rw [← hw0]; simp
  have x1 : w0.cell? ⟨w.heap.size, 1, none⟩ = some (.int .i64 id) := by rw [← hw0]; simp [go_sem]
  have n0 : w0.cell? ⟨w.heap.size + 1, 0, none⟩ = some (.int .i64 0) := by rw [← hw0]; simp [go_sem]
  have n1 : w0.cell? ⟨w.heap.size + 1, 1, none⟩ = some (.string tg) := by rw [← hw0]; simp [go_sem]
  have n2 : w0.cell? ⟨w.heap.size + 1, 2, none⟩ = some (.int .i64 ky) := by rw [← hw0]; simp [go_sem]
  have n3 : w0.cell? ⟨w.heap.size + 1, 3, none⟩ = some (.slice none 0 0) := by rw [← hw0]; simp [go_sem]
  have n4 : w0.cell? ⟨w.heap.size + 1, 4, none⟩ = some (.string tx) := by rw [← hw0]; simp [go_sem]
  have y1 : w0.cell? ⟨q, 1, none⟩ = some (.map (some mb)) := (hb0.cell (p := ⟨q, 1, none⟩) ltq).trans d1
  have y2 : w0.cell? ⟨q, 2, none⟩ = some (.int .i64 last) := (hb0.cell (p := ⟨q, 2, none⟩) ltq).trans d2
  have HB0 := hide hb0
  have HS0 := hide hs0
  have lq0 : q < w0.heap.size := by omega
  have lw0 : w.heap.size < w0.heap.size := by omega
  have lt0 : w.heap.size + 1 < w0.heap.size := by omega
  have hlen0 : ∀ ty, (Builtin.len_ #[111] ty #[.map (some mb)]).run Tryz.prog w0.drew = .ok (.int .i64 R.length) w0.drew := fun ty => (HD.out.map.heap (w' := w0.drew) (HB0.out.block mb HD.out.map.lt)).len ty
  have HLn : Hid (∀ w1 w2, Below w.heap.size w w1 → Below w1.heap.size w1 w2 → ∀ ty, (Builtin.len_ #[111] ty #[.map (some mb)]).run Tryz.prog w2 = .ok (.int .i64 R.length) w2) := hide fun w1 w2 h1 h2 ty => (HD.out.map.heap (w' := w2) ((h2.block mb (Nat.lt_of_lt_of_le HD.out.map.lt h1.size)).trans (h1.block mb HD.out.map.lt))).len ty
  have hlt8 : ¬ (800 : Int) ≤ (R.length : Int) := by omega
  have hge8 : decide ((800 : Int) ≤ (R.length : Int)) = false := decide_eq_false hlt8
  clear hw0 hb0 hs0 d1 d2
  go_region_held3 (fun w' => w'.cell? ⟨w.heap.size, 1, none⟩ = some (.int .i64 id) ∧ w'.cell? ⟨q, 2, none⟩ = some (.int .i64 last) ∧ w'.cell? ⟨q, 1, none⟩ = some (.map (some mb)) ∧ (∀ ty, (Builtin.len_ #[111] ty #[.map (some mb)]).run Tryz.prog w' = .ok (.int .i64 R.length) w') ∧ w'.cell? ⟨w.heap.size + 1, 0, none⟩ = some (.int .i64 0) ∧ w'.cell? ⟨w.heap.size + 1, 1, none⟩ = some (.string tg) ∧ w'.cell? ⟨w.heap.size + 1, 2, none⟩ = some (.int .i64 ky) ∧ w'.cell? ⟨w.heap.size + 1, 3, none⟩ = some (.slice none 0 0) ∧ w'.cell? ⟨w.heap.size + 1, 4, none⟩ = some (.string tx))
    (first
      | go_keep
      | (go_split_ands
         refine ⟨?_, ?_, ?_, ?_, ?_, ?_, ?_, ?_, ?_⟩
         · (rw [hb6.cell (by simp; omega)]; assumption)
         · (rw [hb6.cell (by simp; omega)]; assumption)
         · (rw [hb6.cell (by simp; omega)]; assumption)
         · exact unhide HLn _ _ (unhide HB0).drew hb6
         · (rw [hb6.cell (by simp; omega)]; assumption)
         · (rw [hb6.cell (by simp; omega)]; assumption)
         · (rw [hb6.cell (by simp; omega)]; assumption)
         · (rw [hb6.cell (by simp; omega)]; assumption)
         · (rw [hb6.cell (by simp; omega)]; assumption))
      | (go_split_ands
         refine ⟨?_, ?_, ?_, ?_, ?_, ?_, ?_, ?_, ?_⟩
         · (rw [hb7.cell (by simp; omega)]; assumption)
         · (rw [hb7.cell (by simp; omega)]; assumption)
         · (rw [hb7.cell (by simp; omega)]; assumption)
         · exact unhide HLn _ _ ((unhide HB0).drew.trans (hb6.mono (unhide HB0).size)) hb7
         · (rw [hb7.cell (by simp; omega)]; assumption)
         · (rw [hb7.cell (by simp; omega)]; assumption)
         · (rw [hb7.cell (by simp; omega)]; assumption)
         · (rw [hb7.cell (by simp; omega)]; assumption)
         · (rw [hb7.cell (by simp; omega)]; assumption)))
    (first | (go_at_call 77; refine (unhide HEl _).mono ?_; rintro e w5 ⟨rfl, hb6⟩; have ls6 : w0.heap.size ≤ w5.heap.size := hb6.size) | (go_at_call 79; refine (unhide HTx _).mono ?_; rintro e w6 ⟨rfl, hb7⟩; have ls7 : w5.heap.size ≤ w6.heap.size := hb7.size))
  have hbB : Below w0.heap.size w0 w6 := (Below.refl w0.heap.size w0).drew.trans (hb6.trans (hb7.mono ls6))
  have hbA : Below w.heap.size w w6 := HB0.out.trans (hbB.mono HB0.out.size)
  have m0 := (hbB.cell (p := ⟨w.heap.size + 1, 0, none⟩) (by simp; omega)).trans n0
  have m1 := (hbB.cell (p := ⟨w.heap.size + 1, 1, none⟩) (by simp; omega)).trans n1
  have m2 := (hbB.cell (p := ⟨w.heap.size + 1, 2, none⟩) (by simp; omega)).trans n2
  have m3 := (hbB.cell (p := ⟨w.heap.size + 1, 3, none⟩) (by simp; omega)).trans n3
  have m4 := (hbB.cell (p := ⟨w.heap.size + 1, 4, none⟩) (by simp; omega)).trans n4
  have HBA := hide hbA
  clear hbA hbB
  go_wp2_with (first | (go_at_call 43; refine (unhide HAdd _ (unhide HBA)).mono ?_; rintro e wA ⟨nb', ρ', rfl, hn1, hn2, hW, hDm⟩; have HN1 := hide hn1; have HN2 := hide hn2; have HWr := hide hW; have HDm := hide hDm; clear hn1 hn2 hW hDm))
  go_ret
  exact ⟨rfl, nb', ρ', HN1.out, Nat.le_trans HBA.out.size HN2.out, HWr.out.after HBA.out, HDm.out⟩
end Go.Proofs.YtobgcaemnpkbmaaGreat
