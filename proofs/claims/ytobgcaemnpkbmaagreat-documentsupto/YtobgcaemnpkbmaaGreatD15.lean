/- Ad -/
import Derived.Test.YtobgcaemnpkbmaaGreatD12
import Derived.Test.YtobgcaemnpkbmaaGreatD13
import Derived.StillTailTactics
import Derived.Test.YtobgcaemnpkbmaaGreatD14
namespace Go.Proofs.YtobgcaemnpkbmaaGreat
open Go.RowKit
def AddPost (ρ : Roles) (nb : Int → Nat) (mb : Nat) (rt : Option Nat) (w : World) (q : Nat) (R : List RN) (last : Int) (n : RN) (e : Ending) (w' : World) : Prop :=
  ∃ (nb' : Int → Nat) (ρ' : Roles), e = .returned (.pointer (some ⟨nb' (last + 1), 0, none⟩)) ∧ (∀ i, i ≠ last + 1 → nb' i = nb i) ∧ w.heap.size ≤ nb' (last + 1) ∧ Wrote ρ ρ' w w' ∧ Dom ρ' nb' mb rt w' q (R ++ [n]) (last + 1)
theorem own_zero0 {w : World} {B : Nat} {e : TypeId} {size : Nat} {v : Value} {n : Nat} {xs : List Value} (h : w.ownsRow B e size v n xs) : w.ownsRow 0 e size v n xs := by
  refine ⟨h.1, ?_⟩
  rcases h.2 with hn | ⟨g, cap, cur, e, _, rest⟩
  · exact .inl hn
  · exact .inr ⟨g, cap, cur, e, Nat.zero_le _, rest⟩
theorem ptrs_same {nb nb' : Int → Nat} {K : List Int} (h : ∀ i, i ∈ K → nb' i = nb i) : ptrsOf nb' K = ptrsOf nb K := by
  unfold ptrsOf
  exact List.map_congr_left fun i hi => by rw [h i hi]
theorem Dom.added {ρ : Roles} {nb : Int → Nat} {mb : Nat} {rt : Option Nat} {w w' : World} {q : Nat} {R : List RN} {last : Int} (h : Dom ρ nb mb rt w q R last) (hI : Ids R) (hl0 : 0 ≤ last) (htop : ∀ n, n ∈ R → n.id ≤ last ∧ 0 ≤ n.par ∧ n.par ≤ last) (hlen : R.length < 800) {NB : Nat} {av : Value} {n : RN}
    (hnid : n.id = last + 1) (hnp : n.par = 0) (hNB : w.heap.size ≤ NB) (hNBl : NB < w'.heap.size) (hs : w.heap.size ≤ w'.heap.size) (ho : w'.os = w.os ∧ w'.tape = w.tape ∧ w'.output = w.output) (hold : ∀ b, b < w.heap.size → b ≠ q → b ≠ mb → w'.heap[b]? = w.heap[b]?)
    (hq : w'.heap[q]? = some (.cells #[ptrOpt rt, .map (some mb), .int .i64 (last + 1)] 114 (0, 0))) (hmap : MapAt w' mb (fun j => if j = last + 1 then some NB else blkOf nb R j) (R.length + 1))
    (hblk : w'.heap[NB]? = some (.cells #[.int .i64 (last + 1), .int .i64 n.key, .string n.tag, .string n.text, av, .pointer none, .slice none 0 0] 138 (0, 0))) (hrow : w'.ownsRow 0 72 2 av n.ats.length (attrCells n.ats)) (hav : ∀ b, av.ownBlock = some b → w.heap.size ≤ b ∧ b ≠ NB)
    (hfew : n.ats.length ≤ 5) (hrise : Rises n.ats) (ht : n.tag.size ≤ maxLen) (hx : n.text.size ≤ maxLen) (hsz : ∀ x, x ∈ n.ats → x.1.size ≤ maxLen ∧ x.2.size ≤ maxLen) :
    AddPost ρ nb mb rt w q R last n (.returned (.pointer (some ⟨NB, 0, none⟩))) w' := by
  have hρ : ∀ b, (ρ b).isSome = true → (if b = NB then some (last + 1, 0) else if av.ownBlock = some b then some (last + 1, 1) else ρ b) = ρ b := fun b hsb => by
    have := h.low b hsb
    rw [if_neg (by omega), if_neg (fun e => by have := (hav b e).1; omega)]
  have hnb : ∀ i, i ≠ last + 1 → (if i = last + 1 then NB else nb i) = nb i := fun i hi => if_neg hi
  have hkid : ∀ m, m ∈ R → kidIds (R ++ [n]) m.id = kidIds R m.id := fun m hm => by
    have := hI.pos m hm
    rw [kidIds_append, kidIds_one, if_neg (by omega), List.append_nil]
  refine ⟨fun i => if i = last + 1 then NB else nb i, fun b => if b = NB then some (last + 1, 0) else if av.ownBlock = some b then some (last + 1, 1) else ρ b, by simp, hnb, by simp; exact hNB, ⟨⟨ho.1, ho.2.1, ho.2.2, hs, fun b hb hn => ?_⟩, hρ, fun b hsb => ?_⟩, ⟨hq, ?_, ?_, ?_, fun m hm => ?_, fun b hsb => ?_, by simp; omega⟩⟩
  · exact hold b hb (fun e => hn (by rw [e, h.role]; rfl)) (fun e => hn (by rw [e, h.mrole]; rfl))
  · simp only at hsb
    by_cases e : b = NB
    · right; omega
    · rw [if_neg e] at hsb
      by_cases e2 : av.ownBlock = some b
      · exact .inr (hav b e2).1
      · rw [if_neg e2] at hsb; exact .inl hsb
  · exact (hρ q (by rw [h.role]; rfl)).trans h.role
  · exact (hρ mb (by rw [h.mrole]; rfl)).trans h.mrole
  · have e : blkOf (fun i => if i = last + 1 then NB else nb i) (R ++ [n]) = fun j => if j = last + 1 then some NB else blkOf nb R j := by
      funext j
      by_cases ej : j = last + 1
      · rw [if_pos ej, ej, ← hnid, blkOf_yes (by simp), hnid, if_pos rfl]
      · rw [if_neg ej]
        unfold blkOf
        rw [List.any_append]
        have : ([n].any fun m => m.id == j) = false := by simp [hnid]; omega
        rw [this, Bool.or_false]
        simp only [if_neg ej]
    rw [e, List.length_append]
    exact hmap
  · rcases List.mem_append.1 hm with hm | hm
    · obtain ⟨avm, kvm, hP⟩ := h.node m hm
      have htm := htop m hm
      have hb : ∀ b j, ρ b = some (m.id, j) → w'.heap[b]? = w.heap[b]? := fun b j e => by
        have hpm := hI.pos m hm
        refine hold b (h.low b (by rw [e]; rfl)) (fun x => ?_) (fun x => ?_)
        · rw [x, h.role] at e; have := (Prod.mk.inj (Option.some.inj e)).1; omega
        · rw [x, h.mrole] at e; have := (Prod.mk.inj (Option.some.inj e)).1; omega
      have hk := hP.kept (w' := w') (R' := R ++ [n]) hb hρ (hkid m hm)
      have e1 : (if m.id = last + 1 then NB else nb m.id) = nb m.id := hnb m.id (by omega)
      have e2 : nodeCells (fun i => if i = last + 1 then NB else nb i) m avm kvm = nodeCells nb m avm kvm := by
        have hx := hnb m.par (by omega)
        unfold nodeCells parPtr
        simp only [hx]
      refine ⟨avm, kvm, ⟨?_, ?_, hk.arow, hk.arole, ?_, hk.krole, hk.few, hk.rise, hk.tag, hk.text, hk.size⟩⟩
      · rw [e2]; simp only [e1]; exact hk.blk
      · simp only [e1]; exact hk.role
      · rw [ptrs_same (nb := nb) (fun i hi => ?_)]
        · exact hk.krow
        · rw [hkid m hm] at hi
          obtain ⟨x, hx, _, rfl⟩ := kidIds_mem.1 hi
          exact hnb x.id (by have := (htop x hx).1; omega)
    · rw [List.mem_singleton.1 hm]
      have hk0 : kidIds (R ++ [n]) n.id = [] := by
        rw [kidIds_append, kidIds_one, if_neg (by omega), List.append_nil]
        cases hx : kidIds R n.id with
        | nil => rfl
        | cons a K =>
          obtain ⟨x, hx', hxp, _⟩ := kidIds_mem.1 (show a ∈ kidIds R n.id by rw [hx]; simp)
          have := (htop x hx').2.2
          omega
      refine ⟨av, .slice none 0 0, ⟨?_, ?_, hrow, fun b e => ?_, ?_, (fun b e => by cases e), hfew, hrise, ht, hx, hsz⟩⟩
      · simp only [hnid, if_true]
        rw [hblk]
        unfold nodeCells parPtr
        rw [hnid, hnp, if_pos rfl]
      · simp only [hnid, if_true]
      · show (if b = NB then some (last + 1, 0) else if av.ownBlock = some b then some (last + 1, 1) else ρ b) = some (n.id, 1)
        rw [if_neg (hav b e).2, if_pos e, hnid]
      · rw [hk0]; exact World.ownsRow_nil _ _ _ _
  · replace hsb : (if b = NB then some (last + 1, 0) else if av.ownBlock = some b then some (last + 1, 1) else ρ b).isSome = true := hsb
    by_cases e : b = NB
    · omega
    · rw [if_neg e] at hsb
      by_cases e2 : av.ownBlock = some b
      · exact (hrow.lt b e2).2
      · rw [if_neg e2] at hsb; exact Nat.lt_of_lt_of_le (h.low b hsb) hs
theorem wp_app {P : Program} (w : World) {o : Oper} {a : Act} {K : Act → World → Prop} {Q : Exit → Act → World → Prop} (s x : Operand) (t : TypeId)
    (ho : o.op = .call { callee := .builtin .append, args := #[s, x], argTypes := #[t, t] })
    (base : Nat) (e : TypeId) (i : TypeInfo) (z : Value) (size bytes : Nat) (ht : P.underlying t = some (.slice e)) (hi : P.info? e = some i) (hz : i.zero = some z)
    (hsize : i.size = size) (hby : i.bytes = bytes) (hzs : z.cells.size = size)
    (v : Value) (n : Nat) (xs : List Value) (hs : a.eval s = v) (hown : w.ownsRow base e size v n xs)
    (ao : Option Addr) (m c : Nat) (news : List Value) (hx : a.eval x = .slice ao m c) (hnone : ao = none → m = 0 ∧ c = 0) (hl : news.length = m * size) (hnews : ∀ a, ao = some a → ∀ j u, news[j]? = some u → w.cell? (a.add j) = some u) (h1 : ∀ u ∈ news, u.oneCell' = true)
    (h63 : n + m ≤ 9223372036854775807) (hbytes : (n + m) * bytes ≤ 140737488355328) (hbase : base ≤ w.heap.size)
    (h : ∀ v' w', w'.ownsRow base e size v' (n + m) (xs ++ news) → Grew w w' v v' → K (a.put o.dst v') w') : o.wp P a w K Q := by
  obtain ⟨v', w', hr, h2, h3, h4⟩ := run_app (P := P) w base t o.type e i z size bytes ht hi hz hsize hby hzs v n xs hown ao m c news hnone hl hnews h1 h63 hbytes hbase
  unfold Oper.wp execOp
  simp only [ho, resolve, invoke, builtin, Sem.run_bind, Sem.run_pure, Result.andThen_ok, List.map_toArray, List.map_cons, List.map_nil, hs, hx, hr]
  exact h v' w' h2 h3
set_option maxHeartbeats 4000000 in
set_option maxRecDepth 100000 in
theorem add_any (ρ : Roles) (nb : Int → Nat) (mb : Nat) (rt : Option Nat) (w : World) (q : Nat) (R : List RN) (last : Int) (h : Dom ρ nb mb rt w q R last) (d ky : Int) (tg tx : ByteArray) (ao : Option Addr) (an ac : Nat) (l : List (ByteArray × ByteArray)) (han : an = l.length) (hfew : an ≤ 5) (hrise : Rises l) (hat : AttrsAt w ao an (nmOf l) (vlOf l))
    (hl0 : 0 ≤ last) (hl1 : last ≤ 4611686018427387904) (hI : Ids R) (htop : ∀ n, n ∈ R → n.id ≤ last ∧ 0 ≤ n.par ∧ n.par ≤ last) (hlen : R.length < 800) (hst : tg.size ≤ 1000000) (hsx : tx.size ≤ 1000000) (hsl : ∀ x, x ∈ l → x.1.size ≤ 1000000 ∧ x.2.size ≤ 1000000) :
    Calls Tryz.prog 43 #[.pointer (some ⟨q, 0, none⟩), .agg #[.int .i64 d, .string tg, .int .i64 ky, .slice ao an ac, .string tx]] w (AddPost ρ nb mb rt w q R last { id := last + 1, par := 0, tag := tg, key := ky, text := tx, ats := l, ao := none, an := 0, ac := 0 }) := by
  obtain ⟨i0, hi, hz0, hz1, hz2⟩ := info_parts attrInfo'
  have d2 : w.cell? ⟨q, 2, none⟩ = some (.int .i64 last) := cell_of_blk h.blk 2 _ rfl
  have f2 := frozen_of_blk h.blk 2
  have ltq := lt_of_blk h.blk
  have HD := hide h
  have HAn := hide han
  have HAt := hide hat
  have hs1 : tg.size ≤ 281474976710656 := by omega
  have hs2 : tx.size ≤ 281474976710656 := by omega
  clear h han hat
  go_enter Tryz.func43, Tryz.ntmps43
  go_wp2_with fail
  generalize hw1 : (w.setCell ⟨q, 2, none⟩ (.int .i64 (last + 1))).alloc (.cells #[.int .i64 d, .string tg, .int .i64 ky, .slice ao an ac, .string tx] 33) = w1
  have hz1 : w1.heap.size = w.heap.size + 1 := by rw [← hw1]; simp
  have x1 : w1.cell? ⟨w.heap.size, 1, none⟩ = some (.string tg) := by rw [← hw1]; simp [go_sem]
  have x2 : w1.cell? ⟨w.heap.size, 2, none⟩ = some (.int .i64 ky) := by rw [← hw1]; simp [go_sem]
  have x3 : w1.cell? ⟨w.heap.size, 3, none⟩ = some (.slice ao an ac) := by rw [← hw1]; simp [go_sem]
  have x4 : w1.cell? ⟨w.heap.size, 4, none⟩ = some (.string tx) := by rw [← hw1]; simp [go_sem]
  have y2 : w1.cell? ⟨q, 2, none⟩ = some (.int .i64 (last + 1)) := by
    rw [← hw1, World.cell?_alloc_lt _ _ _ (by rw [size_setCell']; exact ltq)]
    exact World.cell?_setCell_same _ _ _ d2
  have HW1 : Hid (∀ b, b < w.heap.size → b ≠ q → w1.heap[b]? = w.heap[b]?) := hide fun b hb hn => by
    rw [← hw1, heap_alloc_old _ _ (by rw [size_setCell']; exact hb)]
    exact Below.heap_setCell _ _ _ _ hn
  have HQ1 : Hid (w1.heap[q]? = some (.cells #[ptrOpt rt, .map (some mb), .int .i64 (last + 1)] 114 (0, 0))) := hide (by
    rw [← hw1, heap_alloc_old _ _ (by rw [size_setCell']; exact ltq)]
    exact set_blk (i := 2) HD.out.blk _)
  have HO1 : Hid (w1.os = w.os ∧ w1.tape = w.tape ∧ w1.output = w.output) := hide (by rw [← hw1]; exact ⟨rfl, rfl, rfl⟩)
  have lq1 : q < w1.heap.size := by omega
  have lw1 : w.heap.size < w1.heap.size := by omega
  have HZ1 := hide hz1
  clear hw1 hz1 d2 f2
  go_region_held3 (fun w' => w'.cell? ⟨q, 2, none⟩ = some (.int .i64 (last + 1)) ∧ w'.cell? ⟨w.heap.size, 1, none⟩ = some (.string tg) ∧ w'.cell? ⟨w.heap.size, 2, none⟩ = some (.int .i64 ky) ∧ w'.cell? ⟨w.heap.size, 4, none⟩ = some (.string tx))
    (first
      | go_keep
      | (go_split_ands
         refine ⟨?_, ?_, ?_, ?_⟩
         · (rw [hb6.cell (by simp; omega)]; assumption)
         · (rw [hb6.cell (by simp; omega)]; assumption)
         · (rw [hb6.cell (by simp; omega)]; assumption)
         · (rw [hb6.cell (by simp; omega)]; assumption))
      | (go_split_ands
         refine ⟨?_, ?_, ?_, ?_⟩
         · (rw [hb7.cell (by simp; omega)]; assumption)
         · (rw [hb7.cell (by simp; omega)]; assumption)
         · (rw [hb7.cell (by simp; omega)]; assumption)
         · (rw [hb7.cell (by simp; omega)]; assumption)))
    (first | (go_at_call_of 63 (Value.string tg); refine (own_any tg _ hs1).mono ?_; rintro e w5 ⟨rfl, hb6⟩; have ls6 : w1.heap.size ≤ w5.heap.size := hb6.size) | (go_at_call_of 63 (Value.string tx); refine (own_any tx _ hs2).mono ?_; rintro e w6 ⟨rfl, hb7⟩; have ls7 := hb7.size))
  rename_i hHeld
  clear hHeld
  have hb17 : Below w1.heap.size w1 w6 := (Below.refl w1.heap.size w1).drew.trans (hb6.trans (hb7.mono ls6))
  generalize hNB : w6.heap.size = NB
  generalize hw7 : w6.alloc (.cells #[.int .i64 (last + 1), .int .i64 ky, .string tg, .string tx, .slice none 0 0, .pointer none, .slice none 0 0] 138) = w7 at *
  have HN7 : Hid (w7.heap[NB]? = some (.cells #[.int .i64 (last + 1), .int .i64 ky, .string tg, .string tx, .slice none 0 0, .pointer none, .slice none 0 0] 138 (0, 0))) := hide (by rw [← hw7, ← hNB]; exact heap_alloc_new _ _)
  have hb27 : Below w1.heap.size w1 w7 := by rw [← hw7]; exact hb17.alloc hb17.size _
  have hs7 : w7.heap.size = NB + 1 := by rw [← hw7, ← hNB]; simp
  have lNB : w1.heap.size ≤ NB := by rw [← hNB]; exact hb17.size
  have e3 := (hb27.cell (p := ⟨w.heap.size, 3, none⟩) lw1).trans x3
  have HB7 := hide hb27
  have HS7 := hide hs7
  clear hb6 hb7 ls6 ls7 hb17 hb27 hs7 hw7 hNB x1 x2 x3 x4 y2
  go_wp2_with fail
  go_loopw [7, 32] (fun _ i wr => ∃ (j : Nat) (av : Value), j ≤ an ∧ i = .int .i64 j ∧ Hid (wr.heap[NB]? = some (.cells #[.int .i64 (last + 1), .int .i64 ky, .string tg, .string tx, av, .pointer none, .slice none 0 0] 138 (0, 0))) ∧ Hid (wr.ownsRow w7.heap.size 72 2 av j (attrCells (l.take j))) ∧ Hid (w7.heap.size ≤ wr.heap.size) ∧ Hid (∀ b, b < w7.heap.size → b ≠ NB → wr.heap[b]? = w7.heap[b]?) ∧ Hid (wr.os = w7.os ∧ wr.tape = w7.tape ∧ wr.output = w7.output)) (fun _ i _ => an - (intOf i).toNat)
  case atStart => exact ⟨0, .slice none 0 0, Nat.zero_le _, rfl, HN7, hide (World.ownsRow_nil _ _ _ _), hide (Nat.le_refl _), hide (fun _ _ _ => rfl), hide ⟨rfl, rfl, rfl⟩⟩
  case round =>
    obtain ⟨j, av, hj, rfl, hnb, hrow, hsz, hold, hos⟩ := hrel
    have hs7 := HS7.out
    have hszr := hsz.out
    by_cases hlt : j < an
    · have hjl : j < l.length := by have := HAn.out; omega
      obtain ⟨g, o, hao, hgw, c0, c1, _, _⟩ := HAt.out j hlt
      subst hao
      have hgq : g ≠ q := fun e => by
        subst e
        have h1 := HD.out.blk
        simp only [World.cell?, h1] at c0
        rcases hx : (o + j * 2) with _ | _ | _ | n
        · rw [hx] at c0; cases rt <;> simp [ptrOpt] at c0
        · rw [hx] at c0; simp at c0
        · rw [hx] at c0; simp at c0
        · rw [hx] at c0; simp at c0
      have hgb : wr.heap[g]? = w.heap[g]? := (hold.out g (by omega) (by omega)).trans ((HB7.out.block g (by omega)).trans (HW1.out g hgw hgq))
      have d0 : wr.cell? ⟨g, o + j * 2, none⟩ = some (.string l[j].1) := by rw [World.cell?_of_block hgb, c0]; unfold nmOf; rw [List.getD_eq_getElem?_getD, List.getElem?_eq_getElem hjl]; rfl
      have d1 : wr.cell? ⟨g, o + j * 2 + 1, none⟩ = some (.string l[j].2) := by rw [World.cell?_of_block hgb, c1]; unfold vlOf; rw [List.getD_eq_getElem?_getD, List.getElem?_eq_getElem hjl]; rfl
      have hsj := hsl l[j] (List.getElem_mem hjl)
      have ho1 : l[j].1.size ≤ 281474976710656 := by omega
      have ho2 : l[j].2.size ≤ 281474976710656 := by omega
      have hji : (j : Int) < (an : Int) := by omega
      obtain ⟨aa, ca, hav⟩ := own_shape hrow.out
      clear c0 c1 hgb
      subst hav
      go_wp2_with fail
      have hN1 : l[j] = (l[j].1, l[j].2) := rfl
      generalize hn1 : l[j].1 = N1 at *
      generalize hv1 : l[j].2 = V1 at *
      generalize hw8 : wr.alloc (.cells #[.string N1, .string V1] 72) = w8
      have hb8 : Below wr.heap.size wr w8 := by rw [← hw8]; exact (Below.refl _ _).alloc (Nat.le_refl _) _
      have s8 : w8.heap.size = wr.heap.size + 1 := by rw [← hw8]; simp
      have a0 : w8.cell? ⟨wr.heap.size, 0, none⟩ = some (.string N1) := by rw [← hw8]; simp [go_sem]
      have a1 : w8.cell? ⟨wr.heap.size, 1, none⟩ = some (.string V1) := by rw [← hw8]; simp [go_sem]
      have lNr : NB < wr.heap.size := by omega
      have hn8 : w8.heap[NB]? = _ := (hb8.block NB lNr).trans hnb.out
      have a4 : w8.cell? ⟨NB, 4, none⟩ = some (.slice aa j ca) := cell_of_blk hn8 4 _ rfl
      have a5 : w8.frozen? ⟨NB, 4, none⟩ = false := frozen_of_blk hn8 4
      have HB8 := hide hb8
      have S8 := hide s8
      have lr8 : wr.heap.size < w8.heap.size := by omega
      have lN8 : NB < w8.heap.size := by omega
      clear hw8 hb8 s8 d0 d1 hn8
      have hS0 : (fun w' => w'.frozen? ⟨NB, 4, none⟩ = false ∧ w'.cell? ⟨NB, 4, none⟩ = some (.slice aa j ca) ∧ w'.cell? ⟨wr.heap.size, 0, none⟩ = some (.string N1) ∧ w'.cell? ⟨wr.heap.size, 1, none⟩ = some (.string V1)) w8.drew := ⟨a5, a4, a0, a1⟩
      refine wp_region_last (S := (fun w' => w'.frozen? ⟨NB, 4, none⟩ = false ∧ w'.cell? ⟨NB, 4, none⟩ = some (.slice aa j ca) ∧ w'.cell? ⟨wr.heap.size, 0, none⟩ = some (.string N1) ∧ w'.cell? ⟨wr.heap.size, 1, none⟩ = some (.string V1))) (by kernel_rfl) ?_
      refine wpAnyT_take (i := 0) (v := ?v0) rfl (by kernel_rfl) (by kernel_rfl) (by kernel_rfl) (by kernel_rfl) (fun _ _ _ h => h) (Or.inl ⟨by rfl, ?hy0⟩) hS0 ?r0
      case hy0 => (intro w' hSw; (try dsimp only at hSw); simp only [List.getElem_toArray, List.getElem_cons_zero]; go_simp; try (with_reducible rfl))
      simp only [List.getElem_toArray, List.getElem_cons_zero, Act.put, List.setIfInBounds_toArray, List.set_cons_zero, List.set_cons_succ]
      refine wpAnyT_take (i := 1) (v := ?v1) rfl (by kernel_rfl) (by kernel_rfl) (by kernel_rfl) (by kernel_rfl) (fun _ _ _ h => h) (Or.inl ⟨by rfl, ?hy1⟩) hS0 ?r1
      case hy1 => (intro w' hSw; (try dsimp only at hSw); simp only [List.getElem_toArray, List.getElem_cons_zero, List.getElem_cons_succ]; go_simp; try (with_reducible rfl))
      simp only [List.getElem_toArray, List.getElem_cons_zero, List.getElem_cons_succ, Act.put, List.setIfInBounds_toArray, List.set_cons_zero, List.set_cons_succ]
      refine wpAnyT_take (i := 2) (v := ?v2) rfl (by kernel_rfl) (by kernel_rfl) (by kernel_rfl) (by kernel_rfl) (fun _ _ _ h => h) (Or.inl ⟨by rfl, ?hy2⟩) hS0 ?r2
      case hy2 => (intro w' hSw; (try dsimp only at hSw); simp only [List.getElem_toArray, List.getElem_cons_zero, List.getElem_cons_succ]; go_simp; try (with_reducible rfl))
      simp only [List.getElem_toArray, List.getElem_cons_zero, List.getElem_cons_succ, Act.put, List.setIfInBounds_toArray, List.set_cons_zero, List.set_cons_succ]
      refine wpAnyT_take (i := 3) (v := ?v3) rfl (by kernel_rfl) (by kernel_rfl) (by kernel_rfl) (by kernel_rfl) (fun _ _ _ h => h) (Or.inl ⟨by rfl, ?hy3⟩) hS0 ?r3
      case hy3 => (intro w' hSw; (try dsimp only at hSw); simp only [List.getElem_toArray, List.getElem_cons_zero, List.getElem_cons_succ]; go_simp; try (with_reducible rfl))
      simp only [List.getElem_toArray, List.getElem_cons_zero, List.getElem_cons_succ, Act.put, List.setIfInBounds_toArray, List.set_cons_zero, List.set_cons_succ]
      refine wpAnyT_take (i := 4) (v := ?v4) rfl (by kernel_rfl) (by kernel_rfl) (by kernel_rfl) (by kernel_rfl) (fun _ _ _ h => h) (Or.inl ⟨by rfl, ?hy4⟩) hS0 ?r4
      case hy4 => (intro w' hSw; (try dsimp only at hSw); simp only [List.getElem_toArray, List.getElem_cons_zero, List.getElem_cons_succ]; go_simp; try (with_reducible rfl))
      simp only [List.getElem_toArray, List.getElem_cons_zero, List.getElem_cons_succ, Act.put, List.setIfInBounds_toArray, List.set_cons_zero, List.set_cons_succ]
      refine wpAnyT_take (i := 5) (v := ?v5) rfl (by kernel_rfl) (by kernel_rfl) (by kernel_rfl) (by kernel_rfl) (fun _ _ _ h => h) (Or.inl ⟨by rfl, ?hy5⟩) hS0 ?r5
      case hy5 => (intro w' hSw; (try dsimp only at hSw); simp only [List.getElem_toArray, List.getElem_cons_zero, List.getElem_cons_succ]; go_simp; try (with_reducible rfl))
      simp only [List.getElem_toArray, List.getElem_cons_zero, List.getElem_cons_succ, Act.put, List.setIfInBounds_toArray, List.set_cons_zero, List.set_cons_succ]
      refine wpAnyT_take (i := 6) (v := ?v6) rfl (by kernel_rfl) (by kernel_rfl) (by kernel_rfl) (by kernel_rfl) (fun _ _ _ h => h) (Or.inl ⟨by rfl, ?hy6⟩) hS0 ?r6
      case hy6 => (intro w' hSw; (try dsimp only at hSw); simp only [List.getElem_toArray, List.getElem_cons_zero, List.getElem_cons_succ]; go_simp; try (with_reducible rfl))
      simp only [List.getElem_toArray, List.getElem_cons_zero, List.getElem_cons_succ, Act.put, List.setIfInBounds_toArray, List.set_cons_zero, List.set_cons_succ]
      refine wpAnyT_take (i := 8) (v := ?v8) rfl (by kernel_rfl) (by kernel_rfl) (by kernel_rfl) (by kernel_rfl) (fun _ _ _ h => h) (Or.inl ⟨by rfl, ?hy8⟩) hS0 ?r8
      case hy8 => (intro w' hSw; (try dsimp only at hSw); simp only [List.getElem_toArray, List.getElem_cons_zero, List.getElem_cons_succ]; go_simp; try (with_reducible rfl))
      simp only [List.getElem_toArray, List.getElem_cons_zero, List.getElem_cons_succ, Act.put, List.setIfInBounds_toArray, List.set_cons_zero, List.set_cons_succ]
      refine wpAnyT_take (i := 9) (v := ?v9) rfl (by kernel_rfl) (by kernel_rfl) (by kernel_rfl) (by kernel_rfl) (fun _ _ _ h => h) (Or.inl ⟨by rfl, ?hy9⟩) hS0 ?r9
      case hy9 => (intro w' hSw; (try dsimp only at hSw); simp only [List.getElem_toArray, List.getElem_cons_zero, List.getElem_cons_succ]; go_simp; try (with_reducible rfl))
      simp only [List.getElem_toArray, List.getElem_cons_zero, List.getElem_cons_succ, Act.put, List.setIfInBounds_toArray, List.set_cons_zero, List.set_cons_succ]
      refine wpAnyT_one (i := 7) rfl (by kernel_rfl) (by rfl) ?_
      simp only [List.getElem_toArray, List.getElem_cons_zero, List.getElem_cons_succ]
      go_simp
      refine (own_any N1 _ ho1).mono ?_
      rintro e w9 ⟨rfl, hb9⟩
      have s9 : w8.heap.size ≤ w9.heap.size := hb9.size
      have b0 := (hb9.cell (p := ⟨wr.heap.size, 0, none⟩) lr8).trans a0
      have b1 := (hb9.cell (p := ⟨wr.heap.size, 1, none⟩) lr8).trans a1
      have b4 := (hb9.cell (p := ⟨NB, 4, none⟩) lN8).trans a4
      have b5 := (hb9.frozen (p := ⟨NB, 4, none⟩) lN8).trans a5
      have HB9 : Hid (Below wr.heap.size wr w9) := hide (HB8.out.trans (((Below.refl w8.heap.size w8).drew.trans hb9).mono (by omega)))
      refine ⟨.inr ⟨b5, b4, b0, b1⟩, ?_⟩
      clear hb9 hS0 a0 a1 a4 a5
      try simp only [Act.put, List.setIfInBounds_toArray, List.set_cons_zero, List.set_cons_succ]
      refine wpAnyT_one (i := 10) rfl (by kernel_rfl) (by rfl) ?_
      simp only [List.getElem_toArray, List.getElem_cons_zero, List.getElem_cons_succ]
      go_simp
      refine (own_any V1 _ ho2).mono ?_
      rintro e w10 ⟨rfl, hb10⟩
      have s10 : w9.heap.size ≤ w10.heap.size := hb10.size
      have c0 := (hb10.cell (p := ⟨wr.heap.size, 0, none⟩) (by show wr.heap.size < _; omega)).trans b0
      have c1 := (hb10.cell (p := ⟨wr.heap.size, 1, none⟩) (by show wr.heap.size < _; omega)).trans b1
      have c4 := (hb10.cell (p := ⟨NB, 4, none⟩) (by show NB < _; omega)).trans b4
      have c5 := (hb10.frozen (p := ⟨NB, 4, none⟩) (by show NB < _; omega)).trans b5
      have HB10 : Hid (Below wr.heap.size wr w10) := hide (HB9.out.trans (hb10.mono (by omega)))
      refine ⟨.inr ⟨c5, c4, c0, c1⟩, ?_⟩
      clear hb10 b0 b1 b4 b5
      try simp only [Act.put, List.setIfInBounds_toArray, List.set_cons_zero, List.set_cons_succ]
      refine wpAnyT_one (i := 11) rfl (by kernel_rfl) (by rfl) ?_
      simp only [List.getElem_toArray, List.getElem_cons_zero, List.getElem_cons_succ]
      go_simp
      refine wpAnyT_one (i := 12) rfl (by kernel_rfl) (by rfl) ?_
      simp only [List.getElem_toArray, List.getElem_cons_zero, List.getElem_cons_succ]
      go_simp
      generalize hw11 : w10.alloc (.cells #[.string N1, .string V1] 72) = w11
      have hb11 : Below wr.heap.size wr w11 := by rw [← hw11]; exact HB10.out.alloc HB10.out.size _
      have s11 : w11.heap.size = w10.heap.size + 1 := by rw [← hw11]; simp
      have hnews : ∀ a, some (⟨w10.heap.size, 0, none⟩ : Addr) = some a → ∀ i u, [Value.string N1, .string V1][i]? = some u → w11.cell? (a.add i) = some u := by
        rw [← hw11]
        exact cells_new w10 #[.string N1, .string V1] 72
      have p0 := (World.cell?_alloc_lt w10 (.cells #[.string N1, .string V1] 72) ⟨wr.heap.size, 0, none⟩ (by show wr.heap.size < _; omega)).trans c0
      have p1 := (World.cell?_alloc_lt w10 (.cells #[.string N1, .string V1] 72) ⟨wr.heap.size, 1, none⟩ (by show wr.heap.size < _; omega)).trans c1
      have p4 := (World.cell?_alloc_lt w10 (.cells #[.string N1, .string V1] 72) ⟨NB, 4, none⟩ (by show NB < _; omega)).trans c4
      have p5 : w11.frozen? ⟨NB, 4, none⟩ = false := by rw [hb11.frozen (p := ⟨NB, 4, none⟩) lNr]; exact frozen_of_blk hnb.out 4
      rw [hw11] at p0 p1 p4
      refine ⟨.inr ⟨p5, p4, p0, p1⟩, ?_⟩
      have HB11 := hide hb11
      have S11 := hide s11
      have lr11 : wr.heap.size < w11.heap.size := by omega
      have l711 : w7.heap.size ≤ w11.heap.size := by omega
      clear hw11 hb11 s11 c0 c1 c4 c5
      refine wpAnyT_one (i := 13) rfl (by kernel_rfl) (by rfl) ?_
      simp only [List.getElem_toArray, List.getElem_cons_zero, List.getElem_cons_succ]
      refine wp_app w11 _ _ 31 (by rfl) w7.heap.size 72 i0 _ 2 32 Tryz.underlying31 hi hz0 hz1 hz2 rfl (.slice aa j ca) j (attrCells (l.take j)) (by rfl) (ownsRow_below hrow.out HB11.out) (some ⟨w10.heap.size, 0, none⟩) 1 1 [.string N1, .string V1] (by rfl) (by simp) rfl hnews (by simp [Value.oneCell']) (by omega) (by omega) l711 ?_
      intro v' w12 hrow12 hg12
      obtain ⟨a2, c2, rfl⟩ := own_shape hrow12
      have s12 : w11.heap.size ≤ w12.heap.size := hg12.size
      have hav : ∀ b, Value.ownBlock (.slice aa j ca) = some b → w7.heap.size ≤ b ∧ b < wr.heap.size := fun b e => hrow.out.lt b e
      have hq12 : ∀ b, b < w11.heap.size → Value.ownBlock (.slice aa j ca) ≠ some b → w12.heap[b]? = w11.heap[b]? := fun b hb hn => hg12.by.block b hb (fun e => hn e.symm)
      have hqN : w12.heap[NB]? = w11.heap[NB]? := hq12 NB (by omega) (fun e => by have := hav _ e; omega)
      have hqB : w12.heap[wr.heap.size]? = w11.heap[wr.heap.size]? := hq12 wr.heap.size (by omega) (fun e => by have := hav _ e; omega)
      have r0 := (World.cell?_of_block (w := w11) (a := ⟨wr.heap.size, 0, none⟩) hqB).trans p0
      have r1 := (World.cell?_of_block (w := w11) (a := ⟨wr.heap.size, 1, none⟩) hqB).trans p1
      have r4 := (World.cell?_of_block (w := w11) (a := ⟨NB, 4, none⟩) hqN).trans p4
      have r5 := (World.frozen?_of_block (w := w11) (a := ⟨NB, 4, none⟩) hqN).trans p5
      refine ⟨.inr ⟨r5, r4, r0, r1⟩, ?_⟩
      have HR12 := hide hrow12
      have HG12 := hide hg12
      have HAv := hide hav
      have HQ12 := hide hq12
      have HQN := hide hqN
      clear hrow12 hg12 hav hq12 hqN hqB p0 p1 p4 p5 hnews
      try simp only [Act.put, List.setIfInBounds_toArray, List.set_cons_zero, List.set_cons_succ]
      refine wpAnyT_one (i := 14) rfl (by kernel_rfl) (by rfl) ?_
      simp only [List.getElem_toArray, List.getElem_cons_zero, List.getElem_cons_succ]
      go_simp
      refine wpAnyT_one (i := 15) rfl (by kernel_rfl) (by rfl) ?_
      simp only [List.getElem_toArray, List.getElem_cons_zero, List.getElem_cons_succ]
      go_simp
      refine wpAnyT_one (i := 16) rfl (by kernel_rfl) (by rfl) ?_
      simp only [List.getElem_toArray, List.getElem_cons_zero, List.getElem_cons_succ]
      go_simp
      refine ⟨by kernel_rfl, ?_⟩
      refine wpAnyT_done (by kernel_rfl) ?_ _
      go_wp2_with fail
      go_roundw
      case rel =>
        have hn12 := HQN.out.trans ((HB11.out.block NB lNr).trans hnb.out)
        refine ⟨j + 1, .slice a2 (j + 1) c2, by omega, by go_num, hide (set_blk (i := 4) hn12 _), ?_, hide (by rw [size_setCell']; omega), hide (fun b hb hn => ?_), hide ⟨?_, ?_, ?_⟩⟩
        · have e : attrCells (l.take (j + 1)) = attrCells (l.take j) ++ [.string N1, .string V1] := by
            rw [take_att hjl, attrCells_append, hN1]
            rfl
          rw [e]
          exact hide (own_heap HR12.out fun b eb => Below.heap_setCell _ _ _ _ (fun x => by
            have x : b = NB := x
            have := (HR12.out.lt b eb).1
            omega))
        · rw [Below.heap_setCell _ _ _ _ hn, HQ12.out b (by omega) (fun e => by have := HAv.out b e; omega), HB11.out.block b (by omega)]
          exact hold.out b hb hn
        · exact HG12.out.by.os.trans (HB11.out.os.trans hos.out.1)
        · exact HG12.out.by.tape.trans (HB11.out.tape.trans hos.out.2.1)
        · exact HG12.out.by.output.trans (HB11.out.output.trans hos.out.2.2)
      case measure => simp [intOf]; omega
    · have hjn : j = an := by omega
      have HRw : Hid (wr.ownsRow w7.heap.size 72 2 av an (attrCells l)) := by
        have := hrow.out
        rw [hjn, List.take_of_length_le (by have := HAn.out; omega)] at this
        exact hide this
      have lNr : NB < wr.heap.size := by omega
      have hNBc := hnb.out
      have n0 : wr.cell? ⟨NB, 0, none⟩ = some (.int .i64 (last + 1)) := cell_of_blk hNBc 0 _ rfl
      have hqr : wr.heap[q]? = some (.cells #[ptrOpt rt, .map (some mb), .int .i64 (last + 1)] 114 (0, 0)) := (hold.out q (by omega) (by omega)).trans ((HB7.out.block q (by omega)).trans HQ1.out)
      have m1 : wr.cell? ⟨q, 1, none⟩ = some (.map (some mb)) := cell_of_blk hqr 1 _ rfl
      have hwold : ∀ b, b < w.heap.size → b ≠ q → wr.heap[b]? = w.heap[b]? := fun b hb hn => (hold.out b (by omega) (by omega)).trans ((HB7.out.block b (by omega)).trans (HW1.out b hb hn))
      have HMap : Hid (MapAt wr mb (blkOf nb R) R.length) := hide (HD.out.map.heap (hwold mb HD.out.map.lt (fun e => by
        have h1 := HD.out.mrole
        rw [e, HD.out.role] at h1
        have := (Prod.mk.inj (Option.some.inj h1)).2
        omega)))
      have HQr := hide hqr
      have HWo := hide hwold
      clear hjn hqr hwold hNBc
      go_wp2_with fail
      have HNo : Hid (blkOf nb R (last + 1) = none) := hide (blkOf_no (fun n hn => by have := (htop n hn).1; omega))
      go_still_tail 9, (by kernel_rfl)
      change wpList _ _ _ _ _ wr.drew
      go_wp2_with (first | (at_mapUpdate; refine wpList_map_put _ rfl _ _ _ rfl rfl (MapAt.heap (w' := wr.drew) (unhide HMap) rfl) (by unfold maxLen; omega) (last + 1) NB ⟨by omega, by omega⟩ rfl rfl (unhide HNo) ?_; intro w2 hm2 hg2 hs2))
      go_ret
      have hqm : q ≠ mb := fun e => by
        have h1 := HD.out.mrole
        rw [← e, HD.out.role] at h1
        have := (Prod.mk.inj (Option.some.inj h1)).2
        omega
      have hml := HD.out.map.lt
      have hg2' : ∀ b, b < wr.heap.size → b ≠ mb → w2.heap[b]? = wr.heap[b]? := fun b hb hn => hg2.out.block b hb (fun e => hn (Option.some.inj e))
      have hs2' : w2.heap.size = wr.heap.size := hs2
      have hsz1 := HZ1.out
      have hann := HAn.out
      refine Dom.added HD.out hI hl0 htop hlen (n := { id := last + 1, par := 0, tag := tg, key := ky, text := tx, ats := l, ao := none, an := 0, ac := 0 }) rfl rfl (by omega) (by omega) (by omega) ⟨hg2.out.os.trans (hos.out.1.trans (HB7.out.os.trans HO1.out.1)), hg2.out.tape.trans (hos.out.2.1.trans (HB7.out.tape.trans HO1.out.2.1)), hg2.out.output.trans (hos.out.2.2.trans (HB7.out.output.trans HO1.out.2.2))⟩ (fun b hb h1 h2 => (hg2' b (by omega) h2).trans (HWo.out b hb h1)) ((hg2' q (by omega) hqm).trans HQr.out) hm2.out ((hg2' NB lNr (by omega)).trans hnb.out) ?_ (fun b e => ?_) (by show l.length ≤ 5; omega) hrise (by show tg.size ≤ _; unfold maxLen; omega) (by show tx.size ≤ _; unfold maxLen; omega) (fun x hx => by have := hsl x hx; unfold maxLen; omega)
      · show World.ownsRow _ _ _ _ _ l.length _
        rw [← hann]
        exact own_heap (own_zero0 HRw.out) fun b e => hg2' b (HRw.out.lt b e).2 (by have := (HRw.out.lt b e).1; omega)
      · have := HRw.out.lt b e
        exact ⟨by omega, by omega⟩
end Go.Proofs.YtobgcaemnpkbmaaGreat
