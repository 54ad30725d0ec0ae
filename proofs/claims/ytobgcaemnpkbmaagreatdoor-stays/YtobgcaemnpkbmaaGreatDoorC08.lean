import Derived.Test.YtobgcaemnpkbmaaGreatDoorC07
import Derived.Test.YtobgcaemnpkbmaaGreatDoorC05
namespace Go.Proofs.YtobgcaemnpkbmaaGreatDoor
set_option maxRecDepth 100000
set_option maxHeartbeats 8000000
open Go.RowKit List
def Qe (R:List RN) (q:Int):List Int:=(R.filter λn=>n.par==q).map (·.id)
theorem Z0 (R a:List RN) (q:Int):Qe (R++a) q=Qe R q++Qe a q:=by unfold Qe;rw [filter_append,map_append]
theorem JX (n:RN) (q:Int):Qe [n] q=if n.par=q then [n.id] else []:=by
 unfold Qe;by_cases h:n.par=q
 ·simp [h]
 simp [h]
theorem QdR (q:Int):Qe [] q=[]:=rfl
theorem Qs3 (n:RN) (R:List RN) (q:Int):Qe (n::R) q=(if n.par=q then [n.id] else [])++Qe R q:=by rw [show n::R=[n]++R from rfl,Z0,JX]
theorem Qaz {R:List RN} {q i:Int}:i ∈ Qe R q↔∃ n,n ∈ R/\n.par=q/\n.id=i:=by
 unfold Qe;simp only [mem_map,mem_filter,beq_iff_eq];constructor
 ·rintro ⟨n,⟨a,b⟩,c⟩;exact ⟨n,a,b,c⟩
 rintro ⟨n,a,b,c⟩;exact ⟨n,⟨a,b⟩,c⟩
theorem Qha {R:List RN} (h:Qp R) (q:Int):(Qe R q).Nodup:=by unfold Qe;exact (filter_sublist.map _).nodup h.nodup
theorem QdU (R:List RN) (q:Int):(Qe R q).length<=R.length:=by unfold Qe;rw [length_map];exact length_filter_le _ _
theorem Qc1 {R:List RN} {k:Nat} (h:k<R.length):R.take (k+1)=R.take k++[R[k]]:=by rw [take_succ_eq_append_getElem h]
theorem Qck (R:List RN) {q:Int} (c:q≠0):(Qy R q).map (Qj R)=Qe R q:=by
 have h:∀ k,k<=R.length->(Qbt R q k).map (Qj R)=Qe (R.take k) q:=by
  intro k;induction k with
  | zero=>intro _;rfl
  | succ k ih =>
   intro d;have b:k<R.length:=by omega
   rw [Qc1 b,Z0,JX,<- ih (by omega)];by_cases a:QaL R k=q
   ·rw [QnM a,map_append];rw [QbA b] at a;rw [if_pos a];simp [QS b]
   rw [QnQ a];rw [QbA b] at a;rw [if_neg a,append_nil]
 unfold Qy;rw [if_neg c,h R.length (Nat.le_refl _),take_length]
theorem QeS {R:List RN} {k:Nat} (h:k<R.length):R=R.take k++[R[k]]++R.drop (k+1):=by rw [<- Qc1 h,take_append_drop]
theorem Qfc {R:List RN} {k:Nat} (n:RN) (h:k<R.length):R.set k n=R.take k++[n]++R.drop (k+1):=by rw [set_eq_take_append_cons_drop,if_pos h];simp
theorem Qgq {R:List RN} {k:Nat} {n:RN} (a:k<R.length) (b:n.id=R[k].id) (c:n.par=R[k].par) (q:Int):Qe (R.set k n) q=Qe R q:=by
 conv=>rhs;rw [QeS a]
 rw [Qfc n a];simp only [Z0,JX,b,c]
def QO (R:List RN) (k:Nat):List RN:=match R[k]? with|some x=>R.set k { x with par:=0 }|none=>R
theorem Jq {R:List RN} {k:Nat} (h:k<R.length):QO R k=R.set k { R[k] with par:=0 }:=by unfold QO;rw [getElem?_eq_getElem h]
theorem QkB {R:List RN} {k:Nat} (a:k<R.length) {q:Int} (c:q≠0) (b:R[k].par≠q):Qe (QO R k) q=Qe R q:=by
 rw [Jq a];conv=>rhs;rw [QeS a]
 rw [Qfc _ a];simp only [Z0,JX];rw [if_neg (λe:(0:Int)=q=>c e.symm),if_neg b]
theorem Qno {R:List RN} {k:Nat} (d:Qp R) (b:k<R.length) {q:Int} (f:q≠0) (g:R[k].par=q) : ∃ i,i<(Qe R q).length/\(Qe R q)[i]?=some R[k].id/\(∀ j,j<i->(Qe R q)[j]?≠some R[k].id)/\Qe (QO R k) q=(Qe R q).take i++(Qe R q).drop (i+1):=by
 have e:Qe R q=Qe (R.take k) q++[R[k].id]++Qe (R.drop (k+1)) q:=by
  conv=>lhs;rw [QeS b]
  rw [Z0,Z0,JX,if_pos g]
 have h:Qe (QO R k) q=Qe (R.take k) q++Qe (R.drop (k+1)) q:=by rw [Jq b,Qfc _ b];simp only [Z0,JX];rw [if_neg (λe:(0:Int)=q=>f e.symm),append_nil]
 have a:=Qha d q;rw [e] at a;refine ⟨(Qe (R.take k) q).length,?_,?_,λj l c=>?_,?_⟩
 ·rw [e];simp
 ·rw [e,append_assoc,getElem?_append_right (Nat.le_refl _),Nat.sub_self];rfl
 ·rw [e,append_assoc,getElem?_append_left l] at c;rw [append_assoc] at a;exact (nodup_append.1 a).2.2 _ (mem_of_getElem? c) _ (by simp) rfl
 rw [h,e,append_assoc,take_left];generalize Qe (R.drop (k+1)) q=m;generalize Qe (R.take k) q=X;rw [<- drop_drop,drop_left];rfl
theorem QsF {R:List RN} {n:RN} {k:Nat} {bf q:Int} (f:k<R.length) (b:R[k].par≠q) (c:n.par≠q):∀ j,j<=R.length->Qe (JO R n k bf j) q=Qe (R.take j) q:=by
 intro j;induction j with
 | zero=>intro _;rfl
 | succ j ih =>
  intro g;have a:j<R.length:=by omega
  rw [JO,Z0,Z0,ih (by omega),Qc1 a,Z0];have d:Qe (if bf≠0/\Qj R j=bf then [n] else []) q=[]:=by
   split
   ·rw [JX,if_neg c]
   rfl
  rw [d,append_nil,Qcl a];by_cases e:j=k
  ·subst e;rw [if_pos rfl,QdR,JX,if_neg b]
  rw [if_neg e]
theorem Qht {R:List RN} {n:RN} {k:Nat} {bf q:Int} (b:k<R.length) (c:R[k].par≠q) (a:n.par≠q):Qe (Q6 R n k bf) q=Qe R q:=by
 unfold Q6;rw [Z0,QsF b c a _ (Nat.le_refl _),take_length];split
 ·rw [JX,if_neg a,append_nil]
 rw [QdR,append_nil]
theorem QkJ {R:List RN} {n:RN} {k:Nat} {bf q:Int} (c:k<R.length) (b:R[k].par≠q):∀ j,j<=R.length->(∀ i,i<j->bf=0 \/ Qj R i≠bf)->Qe (JO R n k bf j) q=Qe (R.take j) q:=by
 intro j;induction j with
 | zero=>intro _ _;rfl
 | succ j ih =>
  intro d hb;have a:j<R.length:=by omega
  rw [JO,Z0,Z0,ih (by omega) (λi f=>hb i (by omega)),Qc1 a,Z0];rw [if_neg (λh:bf≠0/\Qj R j=bf=>by rcases hb j (by omega) with e|e;exact h.1 e;exact e h.2),QdR,append_nil,Qcl a];by_cases e:j=k
  ·subst e;rw [if_pos rfl,QdR,JX,if_neg b]
  rw [if_neg e]
theorem Qj3 {R:List RN} {n:RN} {k:Nat} {q:Int} (a:k<R.length) (b:R[k].par≠q) (c:n.par=q):Qe (Q6 R n k 0) q=Qe R q++[n.id]:=by unfold Q6;rw [Z0,QkJ a b _ (Nat.le_refl _) (λ_ _=>.inl rfl),take_length,if_pos rfl,JX,if_pos c]
theorem Qqj {R:List RN} (o:Qp R) {n:RN} {k b:Nat} {bf q:Int} (p:k<R.length) (l:R[k].par≠q) (r:n.par=q) (hb:b<R.length) (f:Qj R b=bf) (s:bf≠0):∀ j,j<=R.length->b<j->Qe (JO R n k bf j) q=Qe (R.take b) q++[n.id]++Qe ((R.take j).drop b) q:=by
 intro j;induction j with
 | zero=>intro _ h;exact absurd h (Nat.not_lt_zero _)
 | succ j ih =>
  intro u t;have a:j<R.length:=by omega
  have d:Qe (if j=k then [] else (R.drop j).take 1) q=Qe [R[j]] q:=by
   rw [Qcl a];by_cases e:j=k
   ·subst e;rw [if_pos rfl,QdR,JX,if_neg l]
   rw [if_neg e]
  have g:∀ i,i<R.length->i≠b->Qj R i≠bf:=λi c m e=>by rw [<- f,QS c,QS hb] at e;exact m (o.inj i b c hb e)
  by_cases e:j=b
  ·subst e;rw [JO,Z0,Z0,QkJ p l _ (by omega) (λi c=>.inr (g i (by omega) (by omega))),d,if_pos ⟨s,f⟩,JX n,if_pos r,Qc1 a];congr 1
   rw [drop_append,drop_of_length_le (by rw [length_take];omega),nil_append,length_take,Nat.min_eq_left (by omega),Nat.sub_self];rfl
  rw [JO,Z0,Z0,ih (by omega) (by omega),d,if_neg (λh:bf≠0/\Qj R j=bf=>g j a e h.2),QdR,append_nil,Qc1 a,drop_append_of_le_length (by rw [length_take];omega),Z0];simp
theorem Qli {R:List RN} (g:Qp R) {n:RN} {k b:Nat} {bf q:Int} (p:k<R.length) (r:R[k].par≠q) (s:n.par=q) (hb:b<R.length) (d:R[b].id=bf) (o:R[b].par=q) (h:bf≠0) : ∃ i,i<(Qe R q).length/\(Qe R q)[i]?=some bf/\(∀ j,j<i->(Qe R q)[j]?≠some bf)/\Qe (Q6 R n k bf) q=(Qe R q).take i++[n.id]++(Qe R q).drop i:=by
 have m:Qj R b=bf:=by rw [QS hb];exact d
 have a:Qe R q=Qe (R.take b) q++Qe (R.drop b) q:=by rw [<- Z0,take_append_drop]
 have c:Qe (R.drop b) q=[bf]++Qe (R.drop (b+1)) q:=by rw [drop_eq_getElem_cons hb,Qs3,if_pos o,d]
 have t:Qe (Q6 R n k bf) q=Qe (R.take b) q++[n.id]++Qe (R.drop b) q:=by unfold Q6;rw [if_neg h,append_nil,Qqj g p r s hb m h _ (Nat.le_refl _) hb,take_length]
 have f:=Qha g q;rw [a,c] at f;refine ⟨(Qe (R.take b) q).length,?_,?_,λj u l=>?_,?_⟩
 ·rw [a,c];simp
 ·rw [a,c,getElem?_append_right (Nat.le_refl _),Nat.sub_self];rfl
 ·rw [a,getElem?_append_left u] at l;exact (nodup_append.1 f).2.2 _ (mem_of_getElem? l) _ (by simp) rfl
 rw [t,a,take_left,drop_left]
theorem QhT {R:List RN} {n:RN} {k:Nat} {bf:Int} (a:k<R.length):Q6 (QO R k) n k bf=Q6 R n k bf:=by
 have c:(QO R k).length=R.length:=by rw [Jq a,length_set]
 have b:∀ j,Qj (QO R k) j=Qj R j:=λj=>by
  rw [Jq a];unfold Qj;rw [getElem?_set];by_cases e:k=j
  ·subst e;rw [if_pos rfl,if_pos a,getElem?_eq_getElem a]
  rw [if_neg e]
 have h:∀ j,j<=R.length->JO (QO R k) n k bf j=JO R n k bf j:=by
  intro j;induction j with
  | zero=>intro _;rfl
  | succ j ih =>
   intro d;rw [JO,JO,ih (by omega),b];congr 1
   by_cases e:j=k
   ·rw [if_pos e,if_pos e]
   rw [if_neg e,if_neg e,Qcl (by omega),Qcl (by omega)];congr 1
   rw [getElem_of_eq (Jq a),getElem_set_ne (λh=>e h.symm)]
 unfold Q6;rw [c,h _ (Nat.le_refl _)]
def Zo (nb:Int->Nat) (p:Int):Value:=if p=0 then .pointer none else Xp (nb p)
def Z5 (nb:Int->Nat) (l:List Int):List Value:=l.map λi=>Xp (nb i)
theorem QiF (nb:Int->Nat) (l:List Int):∀ x ∈ Z5 nb l,x.oneCell'=true:=by intro x a;unfold Z5 at a;obtain ⟨i,_,rfl⟩:=mem_map.1 a;rfl
theorem QmE (nb:Int->Nat) (l:List Int):(Z5 nb l).length=l.length:=by unfold Z5;simp
def Qb7 (nb:Int->Nat) (n:RN) (a b:Value):Array Value:=#[Xi n.id,Xi n.key,.string n.tag,.string n.text,a,Zo nb n.par,b]
abbrev Qo:=Nat->Option (Int × Nat)
structure Jl (ρ:Qo) (nb:Int->Nat) (w:World) (R:List RN) (n:RN) (av kv:Value):Prop where
 blk:w.heap[nb n.id]?=some (.cells (Qb7 nb n av kv) 148 (0,0))
 role:ρ (nb n.id)=some (n.id,0)
 arow:w.ownsRow 0 96 2 av n.ats.length (QM n.ats)
 arole:∀ b,av.ownBlock=some b->ρ b=some (n.id,1)
 krow:w.ownsRow 0 140 1 kv (Qe R n.id).length (Z5 nb (Qe R n.id))
 krole:∀ b,kv.ownBlock=some b->ρ b=some (n.id,2)
 few:n.ats.length<=5
 rise:Zw n.ats
 tag:n.tag.size<=maxLen
 text:n.text.size<=maxLen
 size:∀ x,x ∈ n.ats->x.1.size<=maxLen/\x.2.size<=maxLen
def ZH (nb:Int->Nat) (R:List RN) (i:Int):Option Nat:=if R.any (λn=>n.id==i) then some (nb i) else none
theorem Qc4 {nb:Int->Nat} {R:List RN} {n:RN} (h:n ∈ R):ZH nb R n.id=some (nb n.id):=by unfold ZH;rw [if_pos (any_eq_true.2 ⟨n,h,by simp⟩)]
theorem Qd8 {nb:Int->Nat} {R:List RN} {i:Int} (h:∀ n,n ∈ R->n.id≠i):ZH nb R i=none:=by unfold ZH;rw [if_neg];intro e;obtain ⟨n,a,b⟩:=any_eq_true.1 e;exact h n a (by simpa using b)
structure Qi (ρ:Qo) (nb:Int->Nat) (mb:Nat) (rt:Option Nat) (w:World) (q:Nat) (R:List RN) (last:Int):Prop where
 blk:w.heap[q]?=some (.cells #[QcD rt,.map (some mb),Xi last] 142 (0,0))
 role:ρ q=some (0,0)
 mrole:ρ mb=some (0,1)
 map:Je w mb (ZH nb R) R.length
 node:∀ n,n ∈ R->∃ av kv,Jl ρ nb w R n av kv
 low:∀ b,(ρ b).isSome=true->b<w.heap.size
 few:R.length<=800
theorem Qf {w:World} {b:Nat} {c:Array Value} {t:TypeId} (h:w.heap[b]?=some (.cells c t (0,0))) (i:Nat) (v:Value) (a:c[i]?=some v):w.cell? (Xa b i)=some v:=by simp only [World.cell?,h];simpa using a
theorem Jp {w:World} {b:Nat} {c:Array Value} {t:TypeId} (h:w.heap[b]?=some (.cells c t (0,0))) (i:Nat):w.frozen? (Xa b i)=false:=by simp [World.frozen?,h]
theorem QN {w:World} {b:Nat} {a:Obj} (h:w.heap[b]?=some a):b<w.heap.size:=(Array.getElem?_eq_some_iff.1 h).1
theorem Qb4 {w:World} {b i:Nat} {c:Array Value} {t:TypeId} (h:w.heap[b]?=some (.cells c t (0,0))) (v:Value):(w.setCell (Xa b i) v).heap[b]?=some (.cells (c.set! i v) t (0,0)):=by simp only [World.setCell,Array.getElem?_modify,if_true,h,Option.map_some];simp
theorem Jl.kept {a ρ':Qo} {nb:Int->Nat} {w w':World} {R R':List RN} {n:RN} {d f:Value} (h:Jl a nb w R n d f) (hb:∀ b j,a b=some (n.id,j)->w'.heap[b]?=w.heap[b]?) (c:∀ b,(a b).isSome=true->ρ' b=a b) (g:Qe R' n.id=Qe R n.id):Jl ρ' nb w' R' n d f where
 blk:=(hb _ 0 h.role).trans h.blk
 role:=(c _ (by rw [h.role];rfl)).trans h.role
 arow:=QT h.arow λb e=>hb b 1 (h.arole b e)
 arole:=λb e=>(c b (by rw [h.arole b e];rfl)).trans (h.arole b e)
 krow:=by rw [g];exact QT h.krow λb e=>hb b 2 (h.krole b e)
 krole:=λb e=>(c b (by rw [h.krole b e];rfl)).trans (h.krole b e)
 few:=h.few
 rise:=h.rise
 tag:=h.tag
 text:=h.text
 size:=h.size
theorem Qi.below {c:Qo} {nb:Int->Nat} {a:Nat} {d:Option Nat} {w w':World} {q:Nat} {R:List RN} {last:Int} (h:Qi c nb a d w q R last) (hb:Xb w w'):Qi c nb a d w' q R last where
 blk:=(hb.block q (QN h.blk)).trans h.blk
 role:=h.role
 mrole:=h.mrole
 map:=h.map.heap (hb.block a h.map.lt)
 node:=λn f=>by
  obtain ⟨g,i,k⟩:=h.node n f
  exact ⟨g,i,k.kept (λb j e=>hb.block b (h.low b (by rw [e];rfl))) (λ_ _=>rfl) rfl⟩
 low:=λb e=>Nat.lt_of_lt_of_le (h.low b e) hb.size
 few:=h.few
theorem Qi.touch {d:Qo} {nb:Int->Nat} {a:Nat} {g:Option Nat} {w w':World} {q:Nat} {R:List RN} {last:Int} (h:Qi d nb a g w q R last) {S:Nat->Prop} (c:Qx S w w') (f:∀ b,(d b).isSome=true->¬ S b):Qi d nb a g w' q R last where
 blk:=(c.block q (QN h.blk) (f q (by rw [h.role];rfl))).trans h.blk
 role:=h.role
 mrole:=h.mrole
 map:=h.map.heap (c.block a h.map.lt (f a (by rw [h.mrole];rfl)))
 node:=λn i=>by
  obtain ⟨k,l,m⟩:=h.node n i
  exact ⟨k,l,m.kept (λb j e=>c.block b (h.low b (by rw [e];rfl)) (f b (by rw [e];rfl))) (λ_ _=>rfl) rfl⟩
 low:=λb e=>Nat.lt_of_lt_of_le (h.low b e) c.size
 few:=h.few
theorem Jl.plain {a:Qo} {nb:Int->Nat} {w:World} {R:List RN} {n:RN} {b c:Value} (h:Jl a nb w R n b c):Jx w (nb n.id):=⟨_,_,h.blk⟩
theorem Jl.lt {a:Qo} {nb:Int->Nat} {w:World} {R:List RN} {n:RN} {b c:Value} (h:Jl a nb w R n b c):nb n.id<w.heap.size:=QN h.blk
theorem Jl.nb_inj {b:Qo} {nb:Int->Nat} {w:World} {R:List RN} {n m:RN} {c d av' kv':Value} (h:Jl b nb w R n c d) (f:Jl b nb w R m av' kv') (e:nb n.id=nb m.id):n.id=m.id:=by have a:=h.role;rw [e,f.role] at a;simp at a;exact a.symm
theorem QeJ {R:List RN} (a:Qp R) {m n:RN} (b:m ∈ R) (c:n ∈ R) (e:m.id=n.id):m=n:=by obtain ⟨i,d,rfl⟩:=getElem_of_mem b;obtain ⟨j,f,rfl⟩:=getElem_of_mem c;have:=a.inj i j d f e;subst this;rfl
theorem Qhr {nb:Int->Nat} {R R':List RN} (h:∀ i,(∃ n,n ∈ R'/\n.id=i)↔(∃ n,n ∈ R/\n.id=i)):ZH nb R'=ZH nb R:=by
 funext i;unfold ZH;have:R'.any (λn=>n.id==i)=R.any (λn=>n.id==i):=by
  cases a:R.any (λn=>n.id==i) with
  | true =>obtain ⟨n,b,e⟩:=any_eq_true.1 a;obtain ⟨m,c,e'⟩:=(h i).2 ⟨n,b,by simpa using e⟩;exact any_eq_true.2 ⟨m,c,by simp [e']⟩
  | false =>cases d:R'.any (λn=>n.id==i) with| false=>rfl| true =>obtain ⟨n,b,e⟩:=any_eq_true.1 d;obtain ⟨m,c,e'⟩:=(h i).1 ⟨n,b,by simpa using e⟩;rw [any_eq_true.2 ⟨m,c,by simp [e']⟩] at a;cases a
 rw [this]
theorem Qud {R:List RN} (d:Qp R) {n:RN} {k:Nat} {bf:Int} (a:k<R.length) (hb:bf=0 \/ ∃ i,i<R.length/\Qj R i=bf) (f:n.id=R[k].id) : n ∈ Q6 R n k bf/\∀ i,(∃ m,m ∈ Q6 R n k bf/\m.id=i)↔(∃ m,m ∈ R/\m.id=i):=by
 obtain ⟨b,g⟩:=Qc8 (n:=n) d a hb;refine ⟨b.mem_iff.2 (by simp),λi=>⟨?_,?_⟩⟩
 ·rintro ⟨m,c,e⟩;rcases Qfk d a hb m c with h|rfl
  ·exact ⟨m,h,e⟩
  exact ⟨R[k],getElem_mem a,by rw [<- f];exact e⟩
 rintro ⟨m,c,e⟩;rcases mem_append.1 (g.mem_iff.1 c) with h|h
 ·exact ⟨m,b.mem_iff.2 (mem_append.2 (.inl h)),e⟩
 have:=mem_singleton.1 h;subst this;exact ⟨n,b.mem_iff.2 (by simp),by rw [f];exact e⟩
def QV (a ρ':Qo) (w w':World):Prop:=Qx (λb=>(a b).isSome=true) w w'/\(∀ b,(a b).isSome=true->ρ' b=a b)/\∀ b,(ρ' b).isSome=true->(a b).isSome=true \/ w.heap.size<=b
theorem Qi.taken {f:Qo} {nb:Int->Nat} {y:Nat} {a3:Option Nat} {w:World} {q:Nat} {R:List RN} {last:Int} (h:Qi f nb y a3 w q R last) (u:Qp R) {k t:Nat} (v:k<R.length) (a4:t<R.length) (G:R[t].id≠R[k].id) (Y:R[k].par=0) {M C:Value} (c:Jl f nb w R R[t] M C) {bf:Int} (hb:bf=0 \/ ∃ i,i<R.length/\Qj R i=bf) {L:List Int} (ah:Qe (Q6 R { R[k] with par:=R[t].id } k bf) R[t].id=L) {w2:World} {d:Value} (a5:w.heap.size<=w2.heap.size) (N:w2.os=w.os/\w2.tape=w.tape/\w2.output=w.output) (E:∀ b,b<w.heap.size->some b≠C.ownBlock->w2.heap[b]?=w.heap[b]?) (V:w2.ownsRow 0 140 1 d L.length (Z5 nb L)) (a6:∀ b,d.ownBlock=some b->C.ownBlock=some b \/ w.heap.size<=b) : ∃ ρ',QV f ρ' w ((w2.setCell (Xa (nb R[t].id) 6) d).setCell (Xa (nb R[k].id) 5) (Xp (nb R[t].id)))/\Qi ρ' nb y a3 ((w2.setCell (Xa (nb R[t].id) 6) d).setCell (Xa (nb R[k].id) 5) (Xp (nb R[t].id))) q (Q6 R { R[k] with par:=R[t].id } k bf) last:=by
 obtain ⟨a0,H,a⟩:=h.node _ (getElem_mem v);have a8:=Qh2 (n:={ R[k] with par:=R[t].id }) u v hb rfl;obtain ⟨ab,a9⟩:=Qud (n:={ R[k] with par:=R[t].id }) u v hb rfl;have W:=QmI (n:={ R[k] with par:=R[t].id }) u v hb;have aa:=Qfk (n:={ R[k] with par:=R[t].id }) u v hb;generalize a1:Q6 R { R[k] with par:=R[t].id } k bf=R' at *;have aj:(0:Int)<R[k].id:=u.pos _ (getElem_mem v);have ak:(0:Int)<R[t].id:=u.pos _ (getElem_mem a4);have a2:nb R[t].id≠nb R[k].id:=λe=>G (c.nb_inj a e); -- the heap then
 have O:∀ b,b≠nb R[t].id->b≠nb R[k].id->((w2.setCell (Xa (nb R[t].id) 6) d).setCell (Xa (nb R[k].id) 5) (Xp (nb R[t].id))).heap[b]?=w2.heap[b]?:=λb P p => (Below.heap_setCell _ _ _ _ p).trans (Below.heap_setCell _ _ _ _ P);have z:∀ b r,f b=some r->b≠nb R[t].id->b≠nb R[k].id->some b≠C.ownBlock->((w2.setCell (Xa (nb R[t].id) 6) d).setCell (Xa (nb R[k].id) 5) (Xp (nb R[t].id))).heap[b]?=w.heap[b]?:=λb r e P p ai => (O b P p).trans (E b (h.low b (by rw [e];rfl)) ai);have s:∀ b r,f b=some r->r≠(R[t].id,2)->some b≠C.ownBlock:=λb r e D p=>by rw [c.krole b p.symm] at e;exact D (Option.some.inj e).symm
 have A:∀ b r,f b=some r->r≠(R[t].id,0)->b≠nb R[t].id:=λb r e D p=>by subst p;rw [c.role] at e;exact D (Option.some.inj e).symm
 have B:∀ b r,f b=some r->r≠(R[k].id,0)->b≠nb R[k].id:=λb r e D p=>by subst p;rw [a.role] at e;exact D (Option.some.inj e).symm
 have F:∀ b,d.ownBlock=some b->(f b).isSome=true->f b=some (R[t].id,2):=λb e l=>by
  rcases a6 b e with g|g
  ·exact c.krole b g
  have:=h.low b l;omega
 have o:∀ b,(f b).isSome=true->(if d.ownBlock=some b then some (R[t].id,2) else f b)=f b:=λb l=>by
  by_cases e:d.ownBlock=some b
  ·rw [if_pos e,F b e l]
  rw [if_neg e]
 have X:((w2.setCell (Xa (nb R[t].id) 6) d).setCell (Xa (nb R[k].id) 5) (Xp (nb R[t].id))).heap.size=w2.heap.size:=by rw [ZL,ZL]
 refine ⟨λb=>if d.ownBlock=some b then some (R[t].id,2) else f b,⟨⟨N.1,N.2.1,N.2.2,by rw [X];exact a5,λb hb S=>?_⟩,o,λb l=>?_⟩,⟨?_,?_,?_,?_,λm a7=>?_,λb l=>?_,by rw [W];exact h.few⟩⟩
 ·refine (O b (λe=>S (by rw [e,c.role];rfl)) (λe=>S (by rw [e,a.role];rfl))).trans (E b hb (λe=>S (by rw [c.krole b e.symm];rfl)))
 ·by_cases e:d.ownBlock=some b
  ·rcases a6 b e with g|g
   ·exact .inl (by rw [c.krole b g];rfl)
   exact .inr g
  replace l:(if d.ownBlock=some b then some (R[t].id,2) else f b).isSome=true:=l;rw [if_neg e] at l;exact .inl l
 ·exact (z q _ h.role (A q _ h.role (λe=>by have:=(Prod.mk.inj e).1;omega)) (B q _ h.role (λe=>by have:=(Prod.mk.inj e).1;omega)) (s q _ h.role (λe=>by have:=(Prod.mk.inj e).1;omega))).trans h.blk
 ·exact (o q (by rw [h.role];rfl)).trans h.role
 ·exact (o y (by rw [h.mrole];rfl)).trans h.mrole
 ·rw [W,Qhr a9];exact h.map.heap (z y _ h.mrole (A y _ h.mrole (λe=>by have:=(Prod.mk.inj e).1;omega)) (B y _ h.mrole (λe=>by have:=(Prod.mk.inj e).1;omega)) (s y _ h.mrole (λe=>by have:=(Prod.mk.inj e).1;omega)))
 ·by_cases T:m.id=R[k].id
  ·have U:m={ R[k] with par:=R[t].id }:=QeJ a8 a7 ab T;subst U;have ac:Qe R' R[k].id=Qe R R[k].id:=by rw [<- a1];exact Qht v (by rw [Y];omega) G
   have I:w2.heap[nb R[k].id]?=w.heap[nb R[k].id]?:=E _ a.lt (s _ _ a.role (λe=>by have:=(Prod.mk.inj e).2;omega));have J:(w2.setCell (Xa (nb R[t].id) 6) d).heap[nb R[k].id]?=some (.cells (Qb7 nb R[k] a0 H) 148 (0,0)):=(Below.heap_setCell _ _ _ _ (Ne.symm a2)).trans (I.trans a.blk);have ad:=Qb4 (i:=5) J (Xp (nb R[t].id));refine ⟨a0,H,⟨?_,?_,?_,?_,?_,?_,a.few,a.rise,a.tag,a.text,a.size⟩⟩
   ·rw [ad];show some (Obj.cells #[_,_,_,_,_,_,_] _ _)=some (Obj.cells #[_,_,_,_,_,Zo nb R[t].id,_] _ _);unfold Zo;rw [if_neg (by omega)]
   ·exact (o _ (by rw [a.role];rfl)).trans a.role
   ·exact QT a.arow λb e=>z b _ (a.arole b e) (A b _ (a.arole b e) (λe=>by have:=(Prod.mk.inj e).2;omega)) (B b _ (a.arole b e) (λe=>by have:=(Prod.mk.inj e).2;omega)) (s b _ (a.arole b e) (λe=>by have:=(Prod.mk.inj e).2;omega))
   ·exact λb e=>(o b (by rw [a.arole b e];rfl)).trans (a.arole b e)
   ·show World.ownsRow _ _ _ _ H (Qe R' R[k].id).length (Z5 nb (Qe R' R[k].id));rw [ac];exact QT a.krow λb e=>z b _ (a.krole b e) (A b _ (a.krole b e) (λe=>by have:=(Prod.mk.inj e).2;omega)) (B b _ (a.krole b e) (λe=>by have:=(Prod.mk.inj e).2;omega)) (s b _ (a.krole b e) (λe=>G (Prod.mk.inj e).1.symm))
   exact λb e=>(o b (by rw [a.krole b e];rfl)).trans (a.krole b e)
  have K:m ∈ R:=by
   rcases aa m a7 with h|h
   ·exact h
   subst h;exact absurd rfl T
  by_cases g:m.id=R[t].id
  ·have U:m=R[t]:=QeJ u K (getElem_mem a4) g;subst U;have I:w2.heap[nb R[t].id]?=some (.cells (Qb7 nb R[t] M C) 148 (0,0)):=(E _ c.lt (s _ _ c.role (λe=>by have:=(Prod.mk.inj e).2;omega))).trans c.blk;have J:=Qb4 (i:=6) I d;refine ⟨M,d,⟨?_,?_,?_,?_,?_,?_,c.few,c.rise,c.tag,c.text,c.size⟩⟩
   ·rw [Below.heap_setCell _ _ _ _ a2,J];rfl
   ·exact (o _ (by rw [c.role];rfl)).trans c.role
   ·exact QT c.arow λb e=>z b _ (c.arole b e) (A b _ (c.arole b e) (λe=>by have:=(Prod.mk.inj e).2;omega)) (B b _ (c.arole b e) (λe=>by have:=(Prod.mk.inj e).2;omega)) (s b _ (c.arole b e) (λe=>by have:=(Prod.mk.inj e).2;omega))
   ·exact λb e=>(o b (by rw [c.arole b e];rfl)).trans (c.arole b e)
   ·rw [ah];refine QT V λb e=>O b (λg=>?_) (λg=>?_)
    ·subst g;have:=F _ e (by rw [c.role];rfl);rw [c.role] at this;have:=(Prod.mk.inj (Option.some.inj this)).2;omega
    subst g;have:=F _ e (by rw [a.role];rfl);rw [a.role] at this;have:=(Prod.mk.inj (Option.some.inj this)).2;omega
   intro b e;show (if d.ownBlock=some b then some (R[t].id,2) else f b)=_;rw [if_pos e]
  obtain ⟨ae,af,ag⟩:=h.node m K;refine ⟨ae,af,ag.kept (λb j e=>z b _ e (A b _ e (λx=>g (Prod.mk.inj x).1)) (B b _ e (λx=>T (Prod.mk.inj x).1)) (s b _ e (λx=>g (Prod.mk.inj x).1))) o ?_⟩;rw [<- a1];exact Qht v (by rw [Y];have:=u.pos m K;omega) (λx=>g x.symm)
 rw [X];by_cases e:d.ownBlock=some b
 ·exact Nat.lt_of_lt_of_le (V.lt b e).2 (Nat.le_refl _)
 replace l:(if d.ownBlock=some b then some (R[t].id,2) else f b).isSome=true:=l;rw [if_neg e] at l;exact Nat.lt_of_lt_of_le (h.low b l) a5
theorem Qja (y:Qo) (nb:Int->Nat) (z:Nat) (A:Option Nat) (w:World) (q:Nat) (R:List RN) (last:Int) (h:Qi y nb z A w q R last) (B:Qp R) (k t:Nat) (p:k<R.length) (r:t<R.length) (v:R[t].id≠R[k].id) (x:R[k].par=0) : Xl 61 #[Xp (nb R[t].id),Xp (nb R[k].id),.pointer none] w λe w'=>e=.returned (.tuple #[])/\∃ ρ',QV y ρ' w w'/\Qi ρ' nb z A w' q (Q6 R { R[k] with par:=R[t].id } k 0) last:=by
 obtain ⟨a9,aa,a⟩:=h.node _ (getElem_mem r);obtain ⟨a2,a3,f⟩:=h.node _ (getElem_mem p);have a4:(0:Int)<R[t].id:=B.pos _ (getElem_mem r);have a0:=QdU R R[t].id;have a1:=h.few;have C:Qe (Q6 R { R[k] with par:=R[t].id } k 0) R[t].id=Qe R R[t].id++[R[k].id]:=Qj3 p (by rw [x];omega) rfl;obtain ⟨c,d,rfl⟩:=Qz a.krow;have O:=Qf a.blk 6 (.slice c (Qe R R[t].id).length d) rfl;have P:=Jp a.blk 6;have S:=Qf f.blk 5 (Zo nb R[k].par) rfl;have T:=Jp f.blk 5;have I:=a.lt;have J:=f.lt;have a5:nb R[t].id≠nb R[k].id:=λe=>v (a.nb_inj f e);have s:Value.ownBlock (.slice c (Qe R R[t].id).length d)≠some (nb R[t].id):=λe=>by have:=a.krole _ e;rw [a.role] at this;have:=(Prod.mk.inj (Option.some.inj this)).2;omega
 have u:Value.ownBlock (.slice c (Qe R R[t].id).length d)≠some (nb R[k].id):=λe=>by have:=a.krole _ e;rw [f.role] at this;have:=(Prod.mk.inj (Option.some.inj this)).2;omega
 have l:∀ b,Value.ownBlock (.slice c (Qe R R[t].id).length d)=some b->b<w.heap.size:=λb e=>(a.krow.lt b e).2;have U:=Qa h;have V:=Qa a;have W:=Qa C;have E:Hid (∀ w1,Xb w w1->∀ i,w1.heap[i]?=some (.cells #[Xp (nb R[k].id)] 140 (0,0))->w.heap.size<=i->Xl 96 #[.slice c (Qe R R[t].id).length d,Xi (Qe R R[t].id).length,Xe i 1 1] w1 (Qdf w1 (.slice c (Qe R R[t].id).length d) (Qe R R[t].id).length (Z5 nb (Qe R R[t].id++[R[k].id])))):=by refine Qa λw1 K i L a6=>?_;have:=Qmd (.slice c (Qe R R[t].id).length d) (Qe R R[t].id).length (Qe R R[t].id).length i (Z5 nb (Qe R R[t].id)) [Xp (nb R[k].id)] w1 (Zi a.krow K) (Nat.le_refl _) (by omega) (QiF _ _) rfl (by simp [Value.oneCell']) L (λe=>by have:=l _ e;omega);rw [Nat.mul_one,take_of_length_le (by rw [QmE];exact Nat.le_refl _),drop_of_length_le (by rw [QmE];exact Nat.le_refl _),append_nil] at this;unfold Z5 at this ⊢;rw [map_append];exact this
 have F:=Qa s;have G:=Qa u;have a7:=Qa l;clear h a f C s u l;go_enter Tryz.func61,Tryz.ntmps61;go_wp2_with (first|(go_at_call 96;refine (Qb E _ Xd w.heap.size (heap_alloc_new w _) (Nat.le_refl _)).mono ?_;rintro e w2 ⟨ab,rfl,m,g,D⟩;obtain ⟨ac,ad,rfl⟩:=Qz m;have a8:w.heap.size+1<=w2.heap.size:=(by have:=g.size;simp at this;exact this);have n:w2.heap[nb R[t].id]?=w.heap[nb R[t].id]?:=(g.block _ (by simp;omega) (Ne.symm (Qb F))).trans (heap_alloc_old w _ I);have o:w2.heap[nb R[k].id]?=w.heap[nb R[k].id]?:=(g.block _ (by simp;omega) (Ne.symm (Qb G))).trans (heap_alloc_old w _ J);have ae:=(Xk (nb R[t].id) 6 n).trans O;have af:=(Xm (nb R[t].id) 6 n).trans P;have ag:=(Xk (nb R[k].id) 5 o).trans S;have ah:=(Xm (nb R[k].id) 5 o).trans T;have H:=Qa m;have j:=Qa g;have X:=Qa D;clear m g D n o));go_end0;refine ⟨rfl,?_⟩;have M:(Qe R R[t].id++[R[k].id]).length=(Qe R R[t].id).length+1:=by simp
 exact Qi.taken U.out B p r v x V.out (.inl rfl) W.out (by omega) ⟨j.out.os,j.out.tape,j.out.output⟩ (λb hb Y=>(j.out.block b (by simp;omega) Y).trans (heap_alloc_old w _ hb)) (by rw [M];exact H.out) (λb e=>by
  rcases X.out with h|⟨ai,h,N⟩
  ·exact .inl (h▸e)
  rw [h] at e;have:=Option.some.inj e;simp at N;exact .inr (by omega))
theorem QqV (M:Qo) (nb:Int->Nat) (N:Nat) (O:Option Nat) (w:World) (q:Nat) (R:List RN) (last:Int) (h:Qi M nb N O w q R last) (s:Qp R) (k t:Nat) (C:k<R.length) (D:t<R.length) (J:R[t].id≠R[k].id) (K:R[k].par=0) (b:Nat) (hb:b<R.length) (Y:R[b].par=R[t].id) : Xl 61 #[Xp (nb R[t].id),Xp (nb R[k].id),Xp (nb R[b].id)] w λe w'=>e=.returned (.tuple #[])/\∃ ρ',QV M ρ' w w'/\Qi ρ' nb N O w' q (Q6 R { R[k] with par:=R[t].id } k R[b].id) last:=by
 obtain ⟨aB,a8,a⟩:=h.node _ (getElem_mem D);obtain ⟨aq,ar,l⟩:=h.node _ (getElem_mem C);have au:(0:Int)<R[t].id:=s.pos _ (getElem_mem D);have ao:=QdU R R[t].id;have ap:=h.few;have av:(0:Int)<R[b].id:=s.pos _ (getElem_mem hb);obtain ⟨i,a0,F,G,u⟩:=Qli (n:={ R[k] with par:=R[t].id }) (bf:=R[b].id) (q:=R[t].id) s C (by rw [K];omega) rfl hb rfl Y (by omega);replace u:Qe (Q6 R { R[k] with par:=R[t].id } k R[b].id) R[t].id=(Qe R R[t].id).take i++[R[k].id]++(Qe R R[t].id).drop i:=u;obtain ⟨g,c,rfl⟩:∃ g c,a8=Xe g (Qe R R[t].id).length c:=by
  rcases a.krow.2 with ⟨_,e⟩|⟨g,cap,aw,e,_⟩
  ·omega
  exact ⟨g,cap,e⟩
 have a9:=Qf a.blk 6 (Xe g (Qe R R[t].id).length c) rfl;have aa:=Jp a.blk 6;have ab:=Qf l.blk 5 (Zo nb R[k].par) rfl;have ac:=Jp l.blk 5;have a1:=a.lt;have a2:=l.lt;have ax:nb R[t].id≠nb R[k].id:=λe=>J (a.nb_inj l e);have H:Value.ownBlock (Xe g (Qe R R[t].id).length c)≠some (nb R[t].id):=λe=>by have:=a.krole _ e;rw [a.role] at this;have:=(Prod.mk.inj (Option.some.inj this)).2;omega
 have I:Value.ownBlock (Xe g (Qe R R[t].id).length c)≠some (nb R[k].id):=λe=>by have:=a.krole _ e;rw [l.role] at this;have:=(Prod.mk.inj (Option.some.inj this)).2;omega
 have v:∀ b,Value.ownBlock (Xe g (Qe R R[t].id).length c)=some b->b<w.heap.size:=λb e=>(a.krow.lt b e).2;have ad:=Qa h;have ae:=Qa a;have af:=Qa u;have T:Hid (∀ w1,Xb w w1->∀ p,w1.heap[p]?=some (.cells #[Xp (nb R[k].id)] 140 (0,0))->w.heap.size<=p->Xl 96 #[Xe g (Qe R R[t].id).length c,Xi i,Xe p 1 1] w1 (Qdf w1 (Xe g (Qe R R[t].id).length c) (Qe R R[t].id).length (Z5 nb ((Qe R R[t].id).take i++[R[k].id]++(Qe R R[t].id).drop i)))):=by refine Qa λw1 a3 p a4 ay=>?_;have:=Qmd (Xe g (Qe R R[t].id).length c) (Qe R R[t].id).length i p (Z5 nb (Qe R R[t].id)) [Xp (nb R[k].id)] w1 (Zi a.krow a3) (by omega) (by omega) (QiF _ _) rfl (by simp [Value.oneCell']) a4 (λe=>by have:=v _ e;omega);rw [Nat.mul_one] at this;unfold Z5 at this ⊢;rw [map_append,map_append,map_take,map_drop];exact this
 have U:Hid (Xl 95 #[Xe g (Qe R R[t].id).length c,Xp (nb R[b].id)] w λe w'=>e=.returned (Xi i)/\w=w'):=by
  refine Qa ((QiU g (Qe R R[t].id).length c ((Qe R R[t].id).map nb) (nb R[b].id) w (by simp) (by omega) i a0 (by rw [getElem?_map,F];rfl) (λj ag e=>?_) (λj al d=>?_) (λal d=>?_)).mono λ_ _ h=>⟨h.1,h.2.symm⟩)
  ·rw [getElem?_map] at e;cases f:(Qe R R[t].id)[j]? with| none=>rw [f] at e;cases e| some z =>rw [f] at e;obtain ⟨m,E,_,L⟩:=Qaz.1 (mem_of_getElem? f);obtain ⟨ah,P,y⟩:=h.node m E;obtain ⟨aC,aD,a5⟩:=h.node _ (getElem_mem hb);have e:=Option.some.inj e;rw [<- L] at e;exact G j ag (by rw [f,<- L,y.nb_inj a5 e])
  ·rw [a.krow.cellAt j (by have:=(List.getElem?_eq_some_iff.1 d).1;simp at this;omega)];unfold Z5;rw [getElem?_map] at d ⊢;cases f:(Qe R R[t].id)[j]? with| none=>rw [f] at d;cases d| some z=>rw [f] at d;cases d;rfl
  obtain ⟨z,ai,rfl⟩:=mem_map.1 d;obtain ⟨m,E,_,rfl⟩:=Qaz.1 ai;obtain ⟨ah,P,y⟩:=h.node m E;exact y.plain
 have V:=Qa H;have W:=Qa I;have az:=Qa v;clear h a l u H I v F G;go_enter Tryz.func61,Tryz.ntmps61;go_wp2_with (first|(go_at_call 95;refine (Qb U).mono ?_;rintro e w1 ⟨rfl,rfl⟩)|(go_at_call 96;refine (Qb T _ Xd w.heap.size (heap_alloc_new w _) (Nat.le_refl _)).mono ?_;rintro e w2 ⟨aE,rfl,x,o,S⟩;obtain ⟨P,aF,rfl⟩:=Qz x;have aA:w.heap.size+1<=w2.heap.size:=(by have:=o.size;simp at this;exact this);have A:w2.heap[nb R[t].id]?=w.heap[nb R[t].id]?:=(o.block _ (by simp;omega) (Ne.symm (Qb V))).trans (heap_alloc_old w _ a1);have B:w2.heap[nb R[k].id]?=w.heap[nb R[k].id]?:=(o.block _ (by simp;omega) (Ne.symm (Qb W))).trans (heap_alloc_old w _ a2);have aG:=(Xk (nb R[t].id) 6 A).trans a9;have aH:=(Xm (nb R[t].id) 6 A).trans aa;have aI:=(Xk (nb R[k].id) 5 B).trans ab;have aJ:=(Xm (nb R[k].id) 5 B).trans ac;have X:=Qa x;have r:=Qa o;have aj:=Qa S;clear x o S A B));go_end0;refine ⟨rfl,?_⟩;have a6:((Qe R R[t].id).take i++[R[k].id]++(Qe R R[t].id).drop i).length=(Qe R R[t].id).length+1:=by simp;omega
 exact Qi.taken ad.out s C D J K ae.out (.inr ⟨b,hb,QS hb⟩) af.out (by omega) ⟨r.out.os,r.out.tape,r.out.output⟩ (λb hb ak=>(r.out.block b (by simp;omega) ak).trans (heap_alloc_old w _ hb)) (by rw [a6];exact X.out) (λb e=>by
  rcases aj.out with h|⟨aK,h,a7⟩
  ·exact .inl (h▸e)
  rw [h] at e;have:=Option.some.inj e;simp at a7;exact .inr (by omega))
theorem Qi.moved {f:Qo} {nb:Int->Nat} {s:Nat} {Y:Option Nat} {w:World} {q:Nat} {R:List RN} {last:Int} (h:Qi f nb s Y w q R last) (I:Qp R) {k t:Nat} (a0:k<R.length) (a1:t<R.length) (V:R[t].id≠R[k].id) {J z:Value} (c:Jl f nb w R R[t] J z) {R':List RN} {np:Int} (a5:Qp R') (a8:{ R[k] with par:=np } ∈ R') (a6:∀ i,(∃ m,m ∈ R'/\m.id=i)↔(∃ m,m ∈ R/\m.id=i)) (S:R'.length=R.length) (a7:∀ m,m ∈ R'->m ∈ R \/ m={ R[k] with par:=np }) (a9:Qe R' R[k].id=Qe R R[k].id) (aa:∀ m,m ∈ R->m.id≠R[k].id->m.id≠R[t].id->Qe R' m.id=Qe R m.id) {L:List Int} (af:Qe R' R[t].id=L) {w2:World} {d:Value} (a2:w.heap.size<=w2.heap.size) (K:w2.os=w.os/\w2.tape=w.tape/\w2.output=w.output) (B:∀ b,b<w.heap.size->some b≠z.ownBlock->w2.heap[b]?=w.heap[b]?) (T:w2.ownsRow 0 140 1 d L.length (Z5 nb L)) (a3:∀ b,d.ownBlock=some b->z.ownBlock=some b \/ w.heap.size<=b) : ∃ ρ',QV f ρ' w ((w2.setCell (Xa (nb R[t].id) 6) d).setCell (Xa (nb R[k].id) 5) (Zo nb np))/\Qi ρ' nb s Y ((w2.setCell (Xa (nb R[t].id) 6) d).setCell (Xa (nb R[k].id) 5) (Zo nb np)) q R' last:=by
 obtain ⟨W,E,a⟩:=h.node _ (getElem_mem a0);have ah:(0:Int)<R[k].id:=I.pos _ (getElem_mem a0);have ai:(0:Int)<R[t].id:=I.pos _ (getElem_mem a1);have X:nb R[t].id≠nb R[k].id:=λe=>V (c.nb_inj a e); -- the heap then
 have M:∀ b,b≠nb R[t].id->b≠nb R[k].id->((w2.setCell (Xa (nb R[t].id) 6) d).setCell (Xa (nb R[k].id) 5) (Zo nb np)).heap[b]?=w2.heap[b]?:=λb N o => (Below.heap_setCell _ _ _ _ o).trans (Below.heap_setCell _ _ _ _ N);have u:∀ b r,f b=some r->b≠nb R[t].id->b≠nb R[k].id->some b≠z.ownBlock->((w2.setCell (Xa (nb R[t].id) 6) d).setCell (Xa (nb R[k].id) 5) (Zo nb np)).heap[b]?=w.heap[b]?:=λb r e N o ag => (M b N o).trans (B b (h.low b (by rw [e];rfl)) ag);have p:∀ b r,f b=some r->r≠(R[t].id,2)->some b≠z.ownBlock:=λb r e A o=>by rw [c.krole b o.symm] at e;exact A (Option.some.inj e).symm
 have v:∀ b r,f b=some r->r≠(R[t].id,0)->b≠nb R[t].id:=λb r e A o=>by subst o;rw [c.role] at e;exact A (Option.some.inj e).symm
 have y:∀ b r,f b=some r->r≠(R[k].id,0)->b≠nb R[k].id:=λb r e A o=>by subst o;rw [a.role] at e;exact A (Option.some.inj e).symm
 have D:∀ b,d.ownBlock=some b->(f b).isSome=true->f b=some (R[t].id,2):=λb e l=>by
  rcases a3 b e with g|g
  ·exact c.krole b g
  have:=h.low b l;omega
 have n:∀ b,(f b).isSome=true->(if d.ownBlock=some b then some (R[t].id,2) else f b)=f b:=λb l=>by
  by_cases e:d.ownBlock=some b
  ·rw [if_pos e,D b e l]
  rw [if_neg e]
 have U:((w2.setCell (Xa (nb R[t].id) 6) d).setCell (Xa (nb R[k].id) 5) (Zo nb np)).heap.size=w2.heap.size:=by rw [ZL,ZL]
 refine ⟨λb=>if d.ownBlock=some b then some (R[t].id,2) else f b,⟨⟨K.1,K.2.1,K.2.2,by rw [U];exact a2,λb hb O=>?_⟩,n,λb l=>?_⟩,⟨?_,?_,?_,?_,λm a4=>?_,λb l=>?_,by rw [S];exact h.few⟩⟩
 ·refine (M b (λe=>O (by rw [e,c.role];rfl)) (λe=>O (by rw [e,a.role];rfl))).trans (B b hb (λe=>O (by rw [c.krole b e.symm];rfl)))
 ·by_cases e:d.ownBlock=some b
  ·rcases a3 b e with g|g
   ·exact .inl (by rw [c.krole b g];rfl)
   exact .inr g
  replace l:(if d.ownBlock=some b then some (R[t].id,2) else f b).isSome=true:=l;rw [if_neg e] at l;exact .inl l
 ·exact (u q _ h.role (v q _ h.role (λe=>by have:=(Prod.mk.inj e).1;omega)) (y q _ h.role (λe=>by have:=(Prod.mk.inj e).1;omega)) (p q _ h.role (λe=>by have:=(Prod.mk.inj e).1;omega))).trans h.blk
 ·exact (n q (by rw [h.role];rfl)).trans h.role
 ·exact (n s (by rw [h.mrole];rfl)).trans h.mrole
 ·rw [S,Qhr a6];exact h.map.heap (u s _ h.mrole (v s _ h.mrole (λe=>by have:=(Prod.mk.inj e).1;omega)) (y s _ h.mrole (λe=>by have:=(Prod.mk.inj e).1;omega)) (p s _ h.mrole (λe=>by have:=(Prod.mk.inj e).1;omega)))
 ·by_cases C:m.id=R[k].id
  ·have P:m={ R[k] with par:=np }:=QeJ a5 a4 a8 C;subst P;have F:w2.heap[nb R[k].id]?=w.heap[nb R[k].id]?:=B _ a.lt (p _ _ a.role (λe=>by have:=(Prod.mk.inj e).2;omega));have G:(w2.setCell (Xa (nb R[t].id) 6) d).heap[nb R[k].id]?=some (.cells (Qb7 nb R[k] W E) 148 (0,0)):=(Below.heap_setCell _ _ _ _ (Ne.symm X)).trans (F.trans a.blk);have ab:=Qb4 (i:=5) G (Zo nb np);refine ⟨W,E,⟨?_,?_,?_,?_,?_,?_,a.few,a.rise,a.tag,a.text,a.size⟩⟩
   ·rw [ab];rfl
   ·exact (n _ (by rw [a.role];rfl)).trans a.role
   ·exact QT a.arow λb e=>u b _ (a.arole b e) (v b _ (a.arole b e) (λe=>by have:=(Prod.mk.inj e).2;omega)) (y b _ (a.arole b e) (λe=>by have:=(Prod.mk.inj e).2;omega)) (p b _ (a.arole b e) (λe=>by have:=(Prod.mk.inj e).2;omega))
   ·exact λb e=>(n b (by rw [a.arole b e];rfl)).trans (a.arole b e)
   ·show World.ownsRow _ _ _ _ E (Qe R' R[k].id).length (Z5 nb (Qe R' R[k].id));rw [a9];exact QT a.krow λb e=>u b _ (a.krole b e) (v b _ (a.krole b e) (λe=>by have:=(Prod.mk.inj e).2;omega)) (y b _ (a.krole b e) (λe=>by have:=(Prod.mk.inj e).2;omega)) (p b _ (a.krole b e) (λe=>V (Prod.mk.inj e).1.symm))
   exact λb e=>(n b (by rw [a.krole b e];rfl)).trans (a.krole b e)
  have H:m ∈ R:=by
   rcases a7 m a4 with h|h
   ·exact h
   subst h;exact absurd rfl C
  by_cases g:m.id=R[t].id
  ·have P:m=R[t]:=QeJ I H (getElem_mem a1) g;subst P;have F:w2.heap[nb R[t].id]?=some (.cells (Qb7 nb R[t] J z) 148 (0,0)):=(B _ c.lt (p _ _ c.role (λe=>by have:=(Prod.mk.inj e).2;omega))).trans c.blk;have G:=Qb4 (i:=6) F d;refine ⟨J,d,⟨?_,?_,?_,?_,?_,?_,c.few,c.rise,c.tag,c.text,c.size⟩⟩
   ·rw [Below.heap_setCell _ _ _ _ X,G];rfl
   ·exact (n _ (by rw [c.role];rfl)).trans c.role
   ·exact QT c.arow λb e=>u b _ (c.arole b e) (v b _ (c.arole b e) (λe=>by have:=(Prod.mk.inj e).2;omega)) (y b _ (c.arole b e) (λe=>by have:=(Prod.mk.inj e).2;omega)) (p b _ (c.arole b e) (λe=>by have:=(Prod.mk.inj e).2;omega))
   ·exact λb e=>(n b (by rw [c.arole b e];rfl)).trans (c.arole b e)
   ·rw [af];refine QT T λb e=>M b (λg=>?_) (λg=>?_)
    ·subst g;have:=D _ e (by rw [c.role];rfl);rw [c.role] at this;have:=(Prod.mk.inj (Option.some.inj this)).2;omega
    subst g;have:=D _ e (by rw [a.role];rfl);rw [a.role] at this;have:=(Prod.mk.inj (Option.some.inj this)).2;omega
   intro b e;show (if d.ownBlock=some b then some (R[t].id,2) else f b)=_;rw [if_pos e]
  obtain ⟨ac,ad,ae⟩:=h.node m H;refine ⟨ac,ad,ae.kept (λb j e=>u b _ e (v b _ e (λx=>g (Prod.mk.inj x).1)) (y b _ e (λx=>C (Prod.mk.inj x).1)) (p b _ e (λx=>g (Prod.mk.inj x).1))) n ?_⟩;exact aa m H C g
 rw [U];by_cases e:d.ownBlock=some b
 ·exact Nat.lt_of_lt_of_le (T.lt b e).2 (Nat.le_refl _)
 replace l:(if d.ownBlock=some b then some (R[t].id,2) else f b).isSome=true:=l;rw [if_neg e] at l;exact Nat.lt_of_lt_of_le (h.low b l) a2
theorem Qgw {R:List RN} {k:Nat} (a:k<R.length) {m:RN} (h:m ∈ QO R k):m ∈ R \/ m={ R[k] with par:=0 }:=by rw [Jq a] at h;exact mem_or_eq_of_mem_set h
theorem Qmx {R:List RN} {k:Nat} (a:k<R.length):{ R[k] with par:=0 } ∈ QO R k:=by rw [Jq a];exact mem_set a _
theorem QcW {R:List RN} {k:Nat} (a:k<R.length):(QO R k).length=R.length:=by rw [Jq a,length_set]
theorem Qfp {R:List RN} {k:Nat} (b:Qp R) (a:k<R.length):Qp (QO R k):=by rw [Jq a];exact Qeb b a rfl
theorem Qh9 {R:List RN} {k:Nat} (a:k<R.length):∀ i,(∃ m,m ∈ QO R k/\m.id=i)↔(∃ m,m ∈ R/\m.id=i):=by
 intro i;constructor
 ·rintro ⟨m,b,e⟩;rcases Qgw a b with h|rfl
  ·exact ⟨m,h,e⟩
  exact ⟨R[k],getElem_mem a,e⟩
 rintro ⟨m,b,e⟩;obtain ⟨j,d,rfl⟩:=getElem_of_mem b;by_cases c:j=k
 ·subst c;exact ⟨_,Qmx d,e⟩
 refine ⟨R[j],?_,e⟩;rw [Jq a];exact mem_iff_getElem.2 ⟨j,by rw [length_set];exact d,by rw [getElem_set_ne (λh=>c h.symm)]⟩
theorem Qom {R:List RN} {k:Nat} (a:k<R.length) (b:R[k].par=0):QO R k=R:=by
 rw [Jq a];apply ext_getElem
 ·rw [length_set]
 intro i c d;rw [getElem_set];split
 ·rename_i e;subst e;rw [<- b]
 rfl
end Go.Proofs.YtobgcaemnpkbmaaGreatDoor
