import Derived.Test.YtobgcaemnpkbmaaGreatY10
import Derived.Test.YtobgcaemnpkbmaaGreatY05
namespace Go.Proofs.YtobgcaemnpkbmaaGreat
set_option maxRecDepth 100000
set_option maxHeartbeats 8000000
open Go.RowKit List
variable {bf last:Int} {nb rk:Int->Nat} {R R':List RN} {B b i j k mb q r:Nat} {S:Nat->Prop} {rt:Option Nat} {t:TypeId} {av av' kv v':Value} {w w' w0 w2:World}
def Qf (R:List RN) (q:Int):List Int:=(R.filter λn=>n.par==q).map (·.id)
theorem Jt (R a:List RN) (q:Int):Qf (R++a) q=Qf R q++Qf a q:=by unfold Qf;rw [filter_append,map_append]
theorem QaB (n:RN) (q:Int):Qf [n] q=if n.par=q then [n.id] else []:=by
 unfold Qf;by_cases a:n.par=q
 ·simp [a]
 simp [a]
theorem QeS (q:Int):Qf [] q=[]:=rfl
theorem Qwf (n:RN) (R:List RN) (q:Int):Qf (n::R) q=(if n.par=q then [n.id] else [])++Qf R q:=by rw [show n::R=[n]++R from rfl,Jt,QaB]
theorem Qbb {q i:Int}:i ∈ Qf R q↔∃ n,n ∈ R/\n.par=q/\n.id=i:=by
 unfold Qf;simp only [mem_map,mem_filter,beq_iff_eq];constructor
 ·rintro ⟨n,⟨a,b⟩,c⟩;exact ⟨n,a,b,c⟩
 rintro ⟨n,a,b,c⟩;exact ⟨n,⟨a,b⟩,c⟩
theorem Qhz (a:Qx R) (q:Int):(Qf R q).Nodup:=by unfold Qf;exact (filter_sublist.map _).nodup a.nodup
theorem QeV (R:List RN) (q:Int):(Qf R q).length<=R.length:=by unfold Qf;rw [length_map];exact length_filter_le _ _
theorem Qdx (a:k<R.length):R.take (k+1)=R.take k++[R[k]]:=by rw [take_succ_eq_append_getElem a]
theorem Qcm (R:List RN) {q:Int} (c:q≠0):(Qn R q).map (Qg R)=Qf R q:=by
 have d:∀ k,k<=R.length->(QaD R q k).map (Qg R)=Qf (R.take k) q:=by
  intro k;induction k with
  | zero=>intro _;rfl
  | succ k ih =>
   intro f;have b:k<R.length:=by omega
   rw [Qdx b,Jt,QaB,<- ih (by omega)];by_cases a:QaM R k=q
   ·rw [QkW a,map_append];rw [Qbs b] at a;rw [if_pos a];simp [QV b]
   rw [Qlb a];rw [Qbs b] at a;rw [if_neg a,append_nil]
 unfold Qn;rw [if_neg c,d R.length X0,take_length]
theorem Qe9 (a:k<R.length):R=R.take k++[R[k]]++R.drop (k+1):=by rw [<- Qdx a,take_append_drop]
theorem Qfb (n:RN) (a:k<R.length):R.set k n=R.take k++[n]++R.drop (k+1):=by rw [set_eq_take_append_cons_drop,if_pos a];simp
theorem Qgz {n:RN} (a:k<R.length) (b:n.id=R[k].id) (c:n.par=R[k].par) (q:Int):Qf (R.set k n) q=Qf R q:=by
 conv=>rhs;rw [Qe9 a]
 rw [Qfb n a];simp only [Jt,QaB,b,c]
def QW (R:List RN) (k:Nat):List RN:=match R[k]? with|some x=>R.set k { x with par:=0 }|none=>R
theorem J2 (a:k<R.length):QW R k=R.set k { R[k] with par:=0 }:=by unfold QW;rw [getElem?_eq_getElem a]
theorem Qkl (a:k<R.length) {q:Int} (c:q≠0) (b:R[k].par≠q):Qf (QW R k) q=Qf R q:=by
 rw [J2 a];conv=>rhs;rw [Qe9 a]
 rw [Qfb _ a];simp only [Jt,QaB];rw [if_neg (λe:(0:Int)=q=>c e.symm),if_neg b]
theorem Qoa (d:Qx R) (b:k<R.length) {q:Int} (f:q≠0) (g:R[k].par=q) : ∃ i,i<(Qf R q).length/\(Qf R q)[i]?=some R[k].id/\(∀ j,j<i->(Qf R q)[j]?≠some R[k].id)/\Qf (QW R k) q=(Qf R q).take i++(Qf R q).drop (i+1):=by
 have e:Qf R q=Qf (R.take k) q++[R[k].id]++Qf (R.drop (k+1)) q:=by
  conv=>lhs;rw [Qe9 b]
  rw [Jt,Jt,QaB,if_pos g]
 have h:Qf (QW R k) q=Qf (R.take k) q++Qf (R.drop (k+1)) q:=by rw [J2 b,Qfb _ b];simp only [Jt,QaB];rw [if_neg (λe:(0:Int)=q=>f e.symm),append_nil]
 have a:=Qhz d q;rw [e] at a;refine ⟨(Qf (R.take k) q).length,?_,?_,λj l c=>?_,?_⟩
 ·rw [e];simp
 ·rw [e,append_assoc,getElem?_append_right X0,Nat.sub_self];rfl
 ·rw [e,append_assoc,getElem?_append_left l] at c;rw [append_assoc] at a;exact (nodup_append.1 a).2.2 _ (Xb0 c) _ (by simp) rfl
 rw [h,e,append_assoc,take_left];generalize Qf (R.drop (k+1)) q=m;generalize Qf (R.take k) q=n;rw [<- drop_drop,drop_left];rfl
theorem Quo {n:RN} {q:Int} (f:k<R.length) (b:R[k].par≠q) (c:n.par≠q):∀ j,j<=R.length->Qf (Zh R n k bf j) q=Qf (R.take j) q:=by
 intro j;induction j with
 | zero=>intro _;rfl
 | succ j ih =>
  intro g;have a:j<R.length:=by omega
  rw [Zh,Jt,Jt,ih (by omega),Qdx a,Jt];have d:Qf (if bf≠0/\Qg R j=bf then [n] else []) q=[]:=by
   split
   ·rw [QaB,if_neg c]
   rfl
  rw [d,append_nil,Qca a];by_cases e:j=k
  ·subst e;rw [if_pos rfl,QeS,QaB,if_neg b]
  rw [if_neg e]
theorem QhA {n:RN} {q:Int} (b:k<R.length) (c:R[k].par≠q) (a:n.par≠q):Qf (QM R n k bf) q=Qf R q:=by
 unfold QM;rw [Jt,Quo b c a _ X0,take_length];split
 ·rw [QaB,if_neg a,append_nil]
 rw [QeS,append_nil]
theorem QjQ {n:RN} {q:Int} (f:k<R.length) (d:R[k].par≠q):∀ j,j<=R.length->(∀ i,i<j->bf=0 \/ Qg R i≠bf)->Qf (Zh R n k bf j) q=Qf (R.take j) q:=by
 intro j;induction j with
 | zero=>intro _ _;rfl
 | succ j ih =>
  intro g b;have a:j<R.length:=by omega
  rw [Zh,Jt,Jt,ih (by omega) (λi h=>b i (by omega)),Qdx a,Jt];rw [if_neg (λc:bf≠0/\Qg R j=bf=>by rcases b j (by omega) with e|e;exact c.1 e;exact e c.2),QeS,append_nil,Qca a];by_cases e:j=k
  ·subst e;rw [if_pos rfl,QeS,QaB,if_neg d]
  rw [if_neg e]
theorem Qmo {n:RN} {q:Int} (a:k<R.length) (b:R[k].par≠q) (c:n.par=q):Qf (QM R n k 0) q=Qf R q++[n.id]:=by unfold QM;rw [Jt,QjQ a b _ X0 (λ_ _=>.inl rfl),take_length,if_pos rfl,QaB,if_pos c]
theorem QpO (p:Qx R) {n:RN} {q:Int} (r:k<R.length) (l:R[k].par≠q) (s:n.par=q) (m:b<R.length) (g:Qg R b=bf) (t:bf≠0):∀ j,j<=R.length->b<j->Qf (Zh R n k bf j) q=Qf (R.take b) q++[n.id]++Qf ((R.take j).drop b) q:=by
 intro j;induction j with
 | zero=>intro _ d;exact absurd d (Xb7 _)
 | succ j ih =>
  intro v u;have a:j<R.length:=by omega
  have f:Qf (if j=k then [] else (R.drop j).take 1) q=Qf [R[j]] q:=by
   rw [Qca a];by_cases e:j=k
   ·subst e;rw [if_pos rfl,QeS,QaB,if_neg l]
   rw [if_neg e]
  have h:∀ i,i<R.length->i≠b->Qg R i≠bf:=λi c o e=>by rw [<- g,QV c,QV m] at e;exact o (p.inj i b c m e)
  by_cases e:j=b
  ·subst e;rw [Zh,Jt,Jt,QjQ r l _ (by omega) (λi c=>.inr (h i (by omega) (by omega))),f,if_pos ⟨t,g⟩,QaB n,if_pos s,Qdx a];congr 1
   rw [drop_append,drop_of_length_le (by rw [length_take];omega),nil_append,length_take,Nat.min_eq_left (by omega),Nat.sub_self];rfl
  rw [Zh,Jt,Jt,ih (by omega) (by omega),f,if_neg (λd:bf≠0/\Qg R j=bf=>h j a e d.2),QeS,append_nil,Qdx a,drop_append_of_le_length (by rw [length_take];omega),Jt];simp
theorem Qlg (h:Qx R) {n:RN} {q:Int} (r:k<R.length) (s:R[k].par≠q) (t:n.par=q) (c:b<R.length) (f:R[b].id=bf) (p:R[b].par=q) (l:bf≠0) : ∃ i,i<(Qf R q).length/\(Qf R q)[i]?=some bf/\(∀ j,j<i->(Qf R q)[j]?≠some bf)/\Qf (QM R n k bf) q=(Qf R q).take i++[n.id]++(Qf R q).drop i:=by
 have o:Qg R b=bf:=by rw [QV c];exact f
 have a:Qf R q=Qf (R.take b) q++Qf (R.drop b) q:=by rw [<- Jt,take_append_drop]
 have d:Qf (R.drop b) q=[bf]++Qf (R.drop (b+1)) q:=by rw [drop_eq_getElem_cons c,Qwf,if_pos p,f]
 have u:Qf (QM R n k bf) q=Qf (R.take b) q++[n.id]++Qf (R.drop b) q:=by unfold QM;rw [if_neg l,append_nil,QpO h r s t c o l _ X0 c,take_length]
 have g:=Qhz h q;rw [a,d] at g;refine ⟨(Qf (R.take b) q).length,?_,?_,λj v m=>?_,?_⟩
 ·rw [a,d];simp
 ·rw [a,d,getElem?_append_right X0,Nat.sub_self];rfl
 ·rw [a,getElem?_append_left v] at m;exact (nodup_append.1 g).2.2 _ (Xb0 m) _ (by simp) rfl
 rw [u,a,take_left,drop_left]
theorem QhG {n:RN} (a:k<R.length):QM (QW R k) n k bf=QM R n k bf:=by
 have d:(QW R k).length=R.length:=by rw [J2 a,length_set]
 have c:∀ j,Qg (QW R k) j=Qg R j:=λj=>by
  rw [J2 a];unfold Qg;rw [getElem?_set];by_cases e:k=j
  ·subst e;rw [if_pos rfl,if_pos a,getElem?_eq_getElem a]
  rw [if_neg e]
 have b:∀ j,j<=R.length->Zh (QW R k) n k bf j=Zh R n k bf j:=by
  intro j;induction j with
  | zero=>intro _;rfl
  | succ j ih =>
   intro f;rw [Zh,Zh,ih (by omega),c];congr 1
   by_cases e:j=k
   ·rw [if_pos e,if_pos e]
   rw [if_neg e,if_neg e,Qca (by omega),Qca (by omega)];congr 1
   rw [getElem_of_eq (J2 a),getElem_set_ne (λb=>e b.symm)]
 unfold QM;rw [d,b _ X0]
def ZJ (nb:Int->Nat) (p:Int):Value:=if p=0 then .pointer none else Xp (nb p)
def Jw (nb:Int->Nat) (l:List Int):List Value:=l.map λi=>Xp (nb i)
theorem Qh7 (nb:Int->Nat) (l:List Int):∀ x ∈ Jw nb l,x.oneCell'=true:=by intro x a;unfold Jw at a;obtain ⟨i,_,rfl⟩:=Xa5.1 a;rfl
theorem Qmj (nb:Int->Nat) (l:List Int):(Jw nb l).length=l.length:=by unfold Jw;simp
def QcI (nb:Int->Nat) (n:RN) (a b:Value):Array Value:=#[Xi n.id,Xi n.key,.string n.tag,.string n.text,a,ZJ nb n.par,b]
abbrev Qz:=Nat->Option (Int × Nat)
structure J3 (ρ:Qz) (nb:Int->Nat) (w:World) (R:List RN) (n:RN) (av kv:Value):Prop where
 blk:w.heap[nb n.id]?=some (.cells (QcI nb n av kv) 138 (0,0))
 role:ρ (nb n.id)=some (n.id,0)
 arow:w.ownsRow 0 72 2 av n.ats.length (QS n.ats)
 arole:∀ b,av.ownBlock=some b->ρ b=some (n.id,1)
 krow:w.ownsRow 0 112 1 kv (Qf R n.id).length (Jw nb (Qf R n.id))
 krole:∀ b,kv.ownBlock=some b->ρ b=some (n.id,2)
 few:n.ats.length<=5
 rise:ZM n.ats
 tag:n.tag.size<=maxLen
 text:n.text.size<=maxLen
 size:∀ x,x ∈ n.ats->x.1.size<=maxLen/\x.2.size<=maxLen
def Z8 (nb:Int->Nat) (R:List RN) (i:Int):Option Nat:=if R.any (λn=>n.id==i) then some (nb i) else none
theorem Qdr {n:RN} (a:n ∈ R):Z8 nb R n.id=some (nb n.id):=by unfold Z8;rw [if_pos (any_eq_true.2 ⟨n,a,by simp⟩)]
theorem Qen {i:Int} (c:∀ n,n ∈ R->n.id≠i):Z8 nb R i=none:=by unfold Z8;rw [if_neg];intro e;obtain ⟨n,a,b⟩:=any_eq_true.1 e;exact c n a (by simpa using b)
structure Ql (ρ:Qz) (nb:Int->Nat) (mb:Nat) (rt:Option Nat) (w:World) (q:Nat) (R:List RN) (last:Int):Prop where
 blk:w.heap[q]?=some (.cells #[Qc1 rt,.map (some mb),Xi last] 114 (0,0))
 role:ρ q=some (0,0)
 mrole:ρ mb=some (0,1)
 map:JJ w mb (Z8 nb R) R.length
 node:∀ n,n ∈ R->∃ av kv,J3 ρ nb w R n av kv
 low:∀ b,(ρ b).isSome=true->b<w.heap.size
 few:R.length<=800
theorem Qj {c:Array Value} (d:w.heap[b]?=some (.cells c t (0,0))) (i:Nat) (v:Value) (a:c[i]?=some v):w.cell? (Xa b i)=some v:=by simp only [World.cell?,d];simpa using a
theorem Qax {c:Array Value} (a:w.heap[b]?=some (.cells c t (0,0))) (i:Nat):w.frozen? (Xa b i)=false:=by simp [World.frozen?,a]
theorem Q9 {a:Obj} (c:w.heap[b]?=some a):b<w.heap.size:=(Xd0.1 c).1
theorem QcJ {c:Array Value} (a:w.heap[b]?=some (.cells c t (0,0))) (v:Value):(w.setCell (Xa b i) v).heap[b]?=some (.cells (c.set! i v) t (0,0)):=by simp only [World.setCell,Array.getElem?_modify,if_true,a,Option.map_some];simp
variable {ρ ρ' : Qz}
theorem J3.kept {n:RN} (a:J3 ρ nb w R n av kv) (d:∀ b j,ρ b=some (n.id,j)->w'.heap[b]?=w.heap[b]?) (c:∀ b,(ρ b).isSome=true->ρ' b=ρ b) (f:Qf R' n.id=Qf R n.id):J3 ρ' nb w' R' n av kv where
 blk:=(d _ 0 a.role).trans a.blk
 role:=(c _ (by rw [a.role];rfl)).trans a.role
 arow:=Q8 a.arow λb e=>d b 1 (a.arole b e)
 arole:=λb e=>(c b (by rw [a.arole b e];rfl)).trans (a.arole b e)
 krow:=by rw [f];exact Q8 a.krow λb e=>d b 2 (a.krole b e)
 krole:=λb e=>(c b (by rw [a.krole b e];rfl)).trans (a.krole b e)
 few:=a.few
 rise:=a.rise
 tag:=a.tag
 text:=a.text
 size:=a.size
theorem Ql.below (a:Ql ρ nb mb rt w q R last) (c:Xb w w'):Ql ρ nb mb rt w' q R last where
 blk:=(c.block q (Q9 a.blk)).trans a.blk
 role:=a.role
 mrole:=a.mrole
 map:=a.map.heap (c.block mb a.map.lt)
 node:=λn d=>by
  obtain ⟨f,g,h⟩:=a.node n d
  exact ⟨f,g,h.kept (λb j e=>c.block b (a.low b (by rw [e];rfl))) (λ_ _=>rfl) rfl⟩
 low:=λb e=>Xb4 (a.low b e) c.size
 few:=a.few
theorem Ql.touch (a:Ql ρ nb mb rt w q R last) (c:Qi S w w') (d:∀ b,(ρ b).isSome=true->¬ S b):Ql ρ nb mb rt w' q R last where
 blk:=(c.block q (Q9 a.blk) (d q (by rw [a.role];rfl))).trans a.blk
 role:=a.role
 mrole:=a.mrole
 map:=a.map.heap (c.block mb a.map.lt (d mb (by rw [a.mrole];rfl)))
 node:=λn f=>by
  obtain ⟨g,h,i⟩:=a.node n f
  exact ⟨g,h,i.kept (λb j e=>c.block b (a.low b (by rw [e];rfl)) (d b (by rw [e];rfl))) (λ_ _=>rfl) rfl⟩
 low:=λb e=>Xb4 (a.low b e) c.size
 few:=a.few
theorem J3.plain {n:RN} (a:J3 ρ nb w R n av kv):J7 w (nb n.id):=⟨_,_,a.blk⟩
theorem J3.lt {n:RN} (a:J3 ρ nb w R n av kv):nb n.id<w.heap.size:=Q9 a.blk
theorem J3.nb_inj {n m:RN} {kv':Value} (c:J3 ρ nb w R n av kv) (b:J3 ρ nb w R m av' kv') (e:nb n.id=nb m.id):n.id=m.id:=by have a:=c.role;rw [e,b.role] at a;simp at a;exact a.symm
variable {ρ:Qz}
theorem Qfc (a:Qx R) {m n:RN} (b:m ∈ R) (c:n ∈ R) (e:m.id=n.id):m=n:=by obtain ⟨i,d,rfl⟩:=Xa3 b;obtain ⟨j,f,rfl⟩:=Xa3 c;have:=a.inj i j d f e;subst this;rfl
theorem QhU (d:∀ i,(∃ n,n ∈ R'/\n.id=i)↔(∃ n,n ∈ R/\n.id=i)):Z8 nb R'=Z8 nb R:=by
 funext i;unfold Z8;have:R'.any (λn=>n.id==i)=R.any (λn=>n.id==i):=by
  cases a:R.any (λn=>n.id==i) with
  | true =>obtain ⟨n,b,e⟩:=any_eq_true.1 a;obtain ⟨m,c,e'⟩:=(d i).2 ⟨n,b,by simpa using e⟩;exact any_eq_true.2 ⟨m,c,by simp [e']⟩
  | false =>cases f:R'.any (λn=>n.id==i) with| false=>rfl| true =>obtain ⟨n,b,e⟩:=any_eq_true.1 f;obtain ⟨m,c,e'⟩:=(d i).1 ⟨n,b,by simpa using e⟩;rw [any_eq_true.2 ⟨m,c,by simp [e']⟩] at a;cases a
 rw [this]
theorem QsD (f:Qx R) {n:RN} (b:k<R.length) (g:bf=0 \/ ∃ i,i<R.length/\Qg R i=bf) (h:n.id=R[k].id) : n ∈ QM R n k bf/\∀ i,(∃ m,m ∈ QM R n k bf/\m.id=i)↔(∃ m,m ∈ R/\m.id=i):=by
 obtain ⟨c,j⟩:=QdK (n:=n) f b g;refine ⟨c.mem_iff.2 (by simp),λi=>⟨?_,?_⟩⟩
 ·rintro ⟨m,d,e⟩;rcases Qdn f b g m d with a|rfl
  ·exact ⟨m,a,e⟩
  exact ⟨R[k],Xa0 b,by rw [<- h];exact e⟩
 rintro ⟨m,d,e⟩;rcases Xa4.1 (j.mem_iff.1 d) with a|a
 ·exact ⟨m,c.mem_iff.2 (Xa4.2 (.inl a)),e⟩
 have:=Xa2.1 a;subst this;exact ⟨n,c.mem_iff.2 (by simp),by rw [h];exact e⟩
def Zj (a ρ':Qz) (w w':World):Prop:=Qi (λb=>(a b).isSome=true) w w'/\(∀ b,(a b).isSome=true->ρ' b=a b)/\∀ b,(ρ' b).isSome=true->(a b).isSome=true \/ w.heap.size<=b
theorem Ql.taken (d:Ql ρ nb mb rt w q R last) (p:Qx R) {t:Nat} (s:k<R.length) (Y:t<R.length) (D:R[t].id≠R[k].id) (U:R[k].par=0) (c:J3 ρ nb w R R[t] av kv) (z:bf=0 \/ ∃ i,i<R.length/\Qg R i=bf) {L:List Int} (ac:Qf (QM R { R[k] with par:=R[t].id } k bf) R[t].id=L) (a0:w.heap.size<=w2.heap.size) (I:w2.os=w.os/\w2.tape=w.tape/\w2.output=w.output) (B:∀ b,b<w.heap.size->some b≠kv.ownBlock->w2.heap[b]?=w.heap[b]?) (P:w2.ownsRow 0 112 1 v' L.length (Jw nb L)) (a1:∀ b,v'.ownBlock=some b->kv.ownBlock=some b \/ w.heap.size<=b) : ∃ ρ',Zj ρ ρ' w ((w2.setCell (Xa (nb R[t].id) 6) v').setCell (Xa (nb R[k].id) 5) (Xp (nb R[t].id)))/\Ql ρ' nb mb rt ((w2.setCell (Xa (nb R[t].id) 6) v').setCell (Xa (nb R[k].id) 5) (Xp (nb R[t].id))) q (QM R { R[k] with par:=R[t].id } k bf) last:=by
 obtain ⟨V,E,a⟩:=d.node _ (Xa0 s);have a3:=Qin (n:={ R[k] with par:=R[t].id }) p s z rfl;obtain ⟨a6,a4⟩:=QsD (n:={ R[k] with par:=R[t].id }) p s z rfl;have S:=Qhb (n:={ R[k] with par:=R[t].id }) p s z;have a5:=Qdn (n:={ R[k] with par:=R[t].id }) p s z;generalize W:QM R { R[k] with par:=R[t].id } k bf=R' at *;have ae:(0:Int)<R[k].id:=p.pos _ (Xa0 s);have af:(0:Int)<R[t].id:=p.pos _ (Xa0 Y);have X:nb R[t].id≠nb R[k].id:=λe=>D (c.nb_inj a e); -- the heap then
 have J:∀ b,b≠nb R[t].id->b≠nb R[k].id->((w2.setCell (Xa (nb R[t].id) 6) v').setCell (Xa (nb R[k].id) 5) (Xp (nb R[t].id))).heap[b]?=w2.heap[b]?:=λb K l => (X5 l).trans (X5 K);have u:∀ b r,ρ b=some r->b≠nb R[t].id->b≠nb R[k].id->some b≠kv.ownBlock->((w2.setCell (Xa (nb R[t].id) 6) v').setCell (Xa (nb R[k].id) 5) (Xp (nb R[t].id))).heap[b]?=w.heap[b]?:=λb r e K l ad => (J b K l).trans (B b (d.low b (by rw [e];rfl)) ad);have o:∀ b r,ρ b=some r->r≠(R[t].id,2)->some b≠kv.ownBlock:=λb r e A l=>by rw [c.krole b l.symm] at e;exact A (Xb5 e).symm
 have v:∀ b r,ρ b=some r->r≠(R[t].id,0)->b≠nb R[t].id:=λb r e A l=>by subst l;rw [c.role] at e;exact A (Xb5 e).symm
 have y:∀ b r,ρ b=some r->r≠(R[k].id,0)->b≠nb R[k].id:=λb r e A l=>by subst l;rw [a.role] at e;exact A (Xb5 e).symm
 have C:∀ b,v'.ownBlock=some b->(ρ b).isSome=true->ρ b=some (R[t].id,2):=λb e g=>by
  rcases a1 b e with f|f
  ·exact c.krole b f
  have:=d.low b g;omega
 have h:∀ b,(ρ b).isSome=true->(if v'.ownBlock=some b then some (R[t].id,2) else ρ b)=ρ b:=λb g=>by
  by_cases e:v'.ownBlock=some b
  ·rw [if_pos e,C b e g]
  rw [if_neg e]
 have T:((w2.setCell (Xa (nb R[t].id) 6) v').setCell (Xa (nb R[k].id) 5) (Xp (nb R[t].id))).heap.size=w2.heap.size:=by rw [QJ,QJ]
 refine ⟨λb=>if v'.ownBlock=some b then some (R[t].id,2) else ρ b,⟨⟨I.1,I.2.1,I.2.2,by rw [T];exact a0,λb z M=>?_⟩,h,λb g=>?_⟩,⟨?_,?_,?_,?_,λm a2=>?_,λb g=>?_,by rw [S];exact d.few⟩⟩
 ·refine (J b (λe=>M (by rw [e,c.role];rfl)) (λe=>M (by rw [e,a.role];rfl))).trans (B b z (λe=>M (by rw [c.krole b e.symm];rfl)))
 ·by_cases e:v'.ownBlock=some b
  ·rcases a1 b e with f|f
   ·exact .inl (by rw [c.krole b f];rfl)
   exact .inr f
  replace g:(if v'.ownBlock=some b then some (R[t].id,2) else ρ b).isSome=true:=g;rw [if_neg e] at g;exact .inl g
 ·exact (u q _ d.role (v q _ d.role (λe=>by have:=(Xb8 e).1;omega)) (y q _ d.role (λe=>by have:=(Xb8 e).1;omega)) (o q _ d.role (λe=>by have:=(Xb8 e).1;omega))).trans d.blk
 ·exact (h q (by rw [d.role];rfl)).trans d.role
 ·exact (h mb (by rw [d.mrole];rfl)).trans d.mrole
 ·rw [S,QhU a4];exact d.map.heap (u mb _ d.mrole (v mb _ d.mrole (λe=>by have:=(Xb8 e).1;omega)) (y mb _ d.mrole (λe=>by have:=(Xb8 e).1;omega)) (o mb _ d.mrole (λe=>by have:=(Xb8 e).1;omega)))
 ·by_cases N:m.id=R[k].id
  ·have O:m={ R[k] with par:=R[t].id }:=Qfc a3 a2 a6 N;subst O;have a7:Qf R' R[k].id=Qf R R[k].id:=by rw [<- W];exact QhA s (by rw [U];omega) D
   have F:w2.heap[nb R[k].id]?=w.heap[nb R[k].id]?:=B _ a.lt (o _ _ a.role (λe=>by have:=(Xb8 e).2;omega));have G:(w2.setCell (Xa (nb R[t].id) 6) v').heap[nb R[k].id]?=some (.cells (QcI nb R[k] V E) 138 (0,0)):=(X5 (Ne.symm X)).trans (F.trans a.blk);have a8:=QcJ (i:=5) G (Xp (nb R[t].id));refine ⟨V,E,⟨?_,?_,?_,?_,?_,?_,a.few,a.rise,a.tag,a.text,a.size⟩⟩
   ·rw [a8];show some (Obj.cells #[_,_,_,_,_,_,_] _ _)=some (Obj.cells #[_,_,_,_,_,ZJ nb R[t].id,_] _ _);unfold ZJ;rw [if_neg (by omega)]
   ·exact (h _ (by rw [a.role];rfl)).trans a.role
   ·exact Q8 a.arow λb e=>u b _ (a.arole b e) (v b _ (a.arole b e) (λe=>by have:=(Xb8 e).2;omega)) (y b _ (a.arole b e) (λe=>by have:=(Xb8 e).2;omega)) (o b _ (a.arole b e) (λe=>by have:=(Xb8 e).2;omega))
   ·exact λb e=>(h b (by rw [a.arole b e];rfl)).trans (a.arole b e)
   ·show World.ownsRow _ _ _ _ E (Qf R' R[k].id).length (Jw nb (Qf R' R[k].id));rw [a7];exact Q8 a.krow λb e=>u b _ (a.krole b e) (v b _ (a.krole b e) (λe=>by have:=(Xb8 e).2;omega)) (y b _ (a.krole b e) (λe=>by have:=(Xb8 e).2;omega)) (o b _ (a.krole b e) (λe=>D (Xb8 e).1.symm))
   exact λb e=>(h b (by rw [a.krole b e];rfl)).trans (a.krole b e)
  have H:m ∈ R:=by
   rcases a5 m a2 with d|d
   ·exact d
   subst d;exact absurd rfl N
  by_cases f:m.id=R[t].id
  ·have O:m=R[t]:=Qfc p H (Xa0 Y) f;subst O;have F:w2.heap[nb R[t].id]?=some (.cells (QcI nb R[t] av kv) 138 (0,0)):=(B _ c.lt (o _ _ c.role (λe=>by have:=(Xb8 e).2;omega))).trans c.blk;have G:=QcJ (i:=6) F v';refine ⟨av,v',⟨?_,?_,?_,?_,?_,?_,c.few,c.rise,c.tag,c.text,c.size⟩⟩
   ·rw [X5 X,G];rfl
   ·exact (h _ (by rw [c.role];rfl)).trans c.role
   ·exact Q8 c.arow λb e=>u b _ (c.arole b e) (v b _ (c.arole b e) (λe=>by have:=(Xb8 e).2;omega)) (y b _ (c.arole b e) (λe=>by have:=(Xb8 e).2;omega)) (o b _ (c.arole b e) (λe=>by have:=(Xb8 e).2;omega))
   ·exact λb e=>(h b (by rw [c.arole b e];rfl)).trans (c.arole b e)
   ·rw [ac];refine Q8 P λb e=>J b (λf=>?_) (λf=>?_)
    ·subst f;have:=C _ e (by rw [c.role];rfl);rw [c.role] at this;have:=(Xb8 (Xb5 this)).2;omega
    subst f;have:=C _ e (by rw [a.role];rfl);rw [a.role] at this;have:=(Xb8 (Xb5 this)).2;omega
   intro b e;show (if v'.ownBlock=some b then some (R[t].id,2) else ρ b)=_;rw [if_pos e]
  obtain ⟨a9,aa,ab⟩:=d.node m H;refine ⟨a9,aa,ab.kept (λb j e=>u b _ e (v b _ e (λx=>f (Xb8 x).1)) (y b _ e (λx=>N (Xb8 x).1)) (o b _ e (λx=>f (Xb8 x).1))) h ?_⟩;rw [<- W];exact QhA s (by rw [U];have:=p.pos m H;omega) (λx=>f x.symm)
 rw [T];by_cases e:v'.ownBlock=some b
 ·exact Xb4 (P.lt b e).2 X0
 replace g:(if v'.ownBlock=some b then some (R[t].id,2) else ρ b).isSome=true:=g;rw [if_neg e] at g;exact Xb4 (d.low b g) a0
theorem Qnq y nb z A w q R last (c:Ql y nb z A w q R last) (B:Qx R) (k t:Nat) (p:k<R.length) (r:t<R.length) (v:R[t].id≠R[k].id) (x:R[k].par=0) : Xl 44 #[Xp (nb R[t].id),Xp (nb R[k].id),.pointer none] w λe w'=>e=.returned (.tuple #[])/\∃ ρ',Zj y ρ' w w'/\Ql ρ' nb z A w' q (QM R { R[k] with par:=R[t].id } k 0) last:=by
 obtain ⟨aa,ab,a⟩:=c.node _ (Xa0 r);obtain ⟨a3,a4,g⟩:=c.node _ (Xa0 p);have a5:(0:Int)<R[t].id:=B.pos _ (Xa0 r);have a1:=QeV R R[t].id;have a2:=c.few;have C:Qf (QM R { R[k] with par:=R[t].id } k 0) R[t].id=Qf R R[t].id++[R[k].id]:=Qmo p (by rw [x];omega) rfl;obtain ⟨d,f,rfl⟩:=Qy a.krow;have O:=Qj a.blk 6 (.slice d (Qf R R[t].id).length f) rfl;have P:=Qax a.blk 6;have S:=Qj g.blk 5 (ZJ nb R[k].par) rfl;have T:=Qax g.blk 5;have I:=a.lt;have J:=g.lt;have a6:nb R[t].id≠nb R[k].id:=λe=>v (a.nb_inj g e);have s:Value.ownBlock (.slice d (Qf R R[t].id).length f)≠some (nb R[t].id):=λe=>by have:=a.krole _ e;rw [a.role] at this;have:=(Xb8 (Xb5 this)).2;omega
 have u:Value.ownBlock (.slice d (Qf R R[t].id).length f)≠some (nb R[k].id):=λe=>by have:=a.krole _ e;rw [g.role] at this;have:=(Xb8 (Xb5 this)).2;omega
 have l:∀ b,Value.ownBlock (.slice d (Qf R R[t].id).length f)=some b->b<w.heap.size:=λb e=>(a.krow.lt b e).2;have U:=Qa c;have V:=Qa a;have W:=Qa C;have E:Hid (∀ w1,Xb w w1->∀ i,w1.heap[i]?=some (.cells #[Xp (nb R[k].id)] 112 (0,0))->w.heap.size<=i->Xl 65 #[.slice d (Qf R R[t].id).length f,Xi (Qf R R[t].id).length,Xe i 1 1] w1 (Qd4 w1 (.slice d (Qf R R[t].id).length f) (Qf R R[t].id).length (Jw nb (Qf R R[t].id++[R[k].id])))):=by refine Qa λw1 K i L a7=>?_;have:=QkC (.slice d (Qf R R[t].id).length f) (Qf R R[t].id).length (Qf R R[t].id).length i (Jw nb (Qf R R[t].id)) [Xp (nb R[k].id)] w1 (QX a.krow K) X0 (by omega) (Qh7 _ _) rfl (by simp [Value.oneCell']) L (λe=>by have:=l _ e;omega);rw [Nat.mul_one,take_of_length_le (by rw [Qmj];exact X0),drop_of_length_le (by rw [Qmj];exact X0),append_nil] at this;unfold Jw at this ⊢;rw [map_append];exact this
 have F:=Qa s;have G:=Qa u;have a8:=Qa l;clear c a g C s u l;go_enter Tryz.func44,Tryz.ntmps44;go_wp2_with (first|(go_at_call 65;refine (Qb E _ Xd w.heap.size (Xc5 w _) X0).mono ?_;rintro e w2 ⟨ac,rfl,m,h,D⟩;obtain ⟨ad,ae,rfl⟩:=Qy m;have a9:w.heap.size+1<=w2.heap.size:=(by have:=h.size;simp at this;exact this);have n:w2.heap[nb R[t].id]?=w.heap[nb R[t].id]?:=(h.block _ (by simp;omega) (Ne.symm (Qb F))).trans (heap_alloc_old w _ I);have o:w2.heap[nb R[k].id]?=w.heap[nb R[k].id]?:=(h.block _ (by simp;omega) (Ne.symm (Qb G))).trans (heap_alloc_old w _ J);have af:=(Xk (nb R[t].id) 6 n).trans O;have ag:=(Xm (nb R[t].id) 6 n).trans P;have ah:=(Xk (nb R[k].id) 5 o).trans S;have ai:=(Xm (nb R[k].id) 5 o).trans T;have H:=Qa m;have j:=Qa h;have X:=Qa D;clear m h D n o));go_end0;refine ⟨rfl,?_⟩;have M:(Qf R R[t].id++[R[k].id]).length=(Qf R R[t].id).length+1:=by simp
 exact Ql.taken U.out B p r v x V.out (.inl rfl) W.out (by omega) ⟨j.out.os,j.out.tape,j.out.output⟩ (λb Y a0=>(j.out.block b (by simp;omega) a0).trans (heap_alloc_old w _ Y)) (by rw [M];exact H.out) (λb e=>by
  rcases X.out with c|⟨aj,c,N⟩
  ·exact .inl (c▸e)
  rw [c] at e;have:=Xb5 e;simp at N;exact .inr (by omega))
theorem QpI M nb N O w q R last (a:Ql M nb N O w q R last) (u:Qx R) (k t:Nat) (C:k<R.length) (D:t<R.length) (J:R[t].id≠R[k].id) (K:R[k].par=0) (b:Nat) (h:b<R.length) (a0:R[b].par=R[t].id) : Xl 44 #[Xp (nb R[t].id),Xp (nb R[k].id),Xp (nb R[b].id)] w λe w'=>e=.returned (.tuple #[])/\∃ ρ',Zj M ρ' w w'/\Ql ρ' nb N O w' q (QM R { R[k] with par:=R[t].id } k R[b].id) last:=by
 obtain ⟨aD,aa,c⟩:=a.node _ (Xa0 D);obtain ⟨au,av,o⟩:=a.node _ (Xa0 C);have aw:(0:Int)<R[t].id:=u.pos _ (Xa0 D);have aq:=QeV R R[t].id;have ar:=a.few;have ax:(0:Int)<R[b].id:=u.pos _ (Xa0 h);obtain ⟨i,a1,F,G,v⟩:=Qlg (n:={ R[k] with par:=R[t].id }) (bf:=R[b].id) (q:=R[t].id) u C (by rw [K];omega) rfl h rfl a0 (by omega);replace v:Qf (QM R { R[k] with par:=R[t].id } k R[b].id) R[t].id=(Qf R R[t].id).take i++[R[k].id]++(Qf R R[t].id).drop i:=v;obtain ⟨g,d,rfl⟩:∃ g d,aa=Xe g (Qf R R[t].id).length d:=by
  rcases c.krow.2 with ⟨_,e⟩|⟨g,a2,ay,e,_⟩
  ·omega
  exact ⟨g,a2,e⟩
 have ab:=Qj c.blk 6 (Xe g (Qf R R[t].id).length d) rfl;have ac:=Qax c.blk 6;have ad:=Qj o.blk 5 (ZJ nb R[k].par) rfl;have ae:=Qax o.blk 5;have a3:=c.lt;have a4:=o.lt;have az:nb R[t].id≠nb R[k].id:=λe=>J (c.nb_inj o e);have H:Value.ownBlock (Xe g (Qf R R[t].id).length d)≠some (nb R[t].id):=λe=>by have:=c.krole _ e;rw [c.role] at this;have:=(Xb8 (Xb5 this)).2;omega
 have I:Value.ownBlock (Xe g (Qf R R[t].id).length d)≠some (nb R[k].id):=λe=>by have:=c.krole _ e;rw [o.role] at this;have:=(Xb8 (Xb5 this)).2;omega
 have x:∀ b,Value.ownBlock (Xe g (Qf R R[t].id).length d)=some b->b<w.heap.size:=λb e=>(c.krow.lt b e).2;have af:=Qa a;have ag:=Qa c;have ah:=Qa v;have U:Hid (∀ w1,Xb w w1->∀ r,w1.heap[r]?=some (.cells #[Xp (nb R[k].id)] 112 (0,0))->w.heap.size<=r->Xl 65 #[Xe g (Qf R R[t].id).length d,Xi i,Xe r 1 1] w1 (Qd4 w1 (Xe g (Qf R R[t].id).length d) (Qf R R[t].id).length (Jw nb ((Qf R R[t].id).take i++[R[k].id]++(Qf R R[t].id).drop i)))):=by refine Qa λw1 a5 r a6 aA=>?_;have:=QkC (Xe g (Qf R R[t].id).length d) (Qf R R[t].id).length i r (Jw nb (Qf R R[t].id)) [Xp (nb R[k].id)] w1 (QX c.krow a5) (by omega) (by omega) (Qh7 _ _) rfl (by simp [Value.oneCell']) a6 (λe=>by have:=x _ e;omega);rw [Nat.mul_one] at this;unfold Jw at this ⊢;rw [map_append,map_append,map_take,map_drop];exact this
 have V:Hid (Xl 64 #[Xe g (Qf R R[t].id).length d,Xp (nb R[b].id)] w λe w'=>e=.returned (Xi i)/\w=w'):=by
  refine Qa ((QkK g (Qf R R[t].id).length d ((Qf R R[t].id).map nb) (nb R[b].id) w (by simp) (by omega) i a1 (by rw [getElem?_map,F];rfl) (λj ai e=>?_) (λj ap f=>?_) (λap f=>?_)).mono λ_ _ a=>⟨a.1,a.2.symm⟩)
  ·rw [getElem?_map] at e;cases l:(Qf R R[t].id)[j]? with| none=>rw [l] at e;cases e| some T =>rw [l] at e;obtain ⟨m,E,_,L⟩:=Qbb.1 (Xb0 l);obtain ⟨aj,P,z⟩:=a.node m E;obtain ⟨aE,aF,a7⟩:=a.node _ (Xa0 h);have e:=Xb5 e;rw [<- L] at e;exact G j ai (by rw [l,<- L,z.nb_inj a7 e])
  ·rw [c.krow.cellAt j (by have:=(List.getElem?_eq_some_iff.1 f).1;simp at this;omega)];unfold Jw;rw [getElem?_map] at f ⊢;cases l:(Qf R R[t].id)[j]? with| none=>rw [l] at f;cases f| some T=>rw [l] at f;cases f;rfl
  obtain ⟨T,ak,rfl⟩:=Xa5.1 f;obtain ⟨m,E,_,rfl⟩:=Qbb.1 ak;obtain ⟨aj,P,z⟩:=a.node m E;exact z.plain
 have W:=Qa H;have X:=Qa I;have aB:=Qa x;clear a c o v H I x F G;go_enter Tryz.func44,Tryz.ntmps44;go_wp2_with (first|(go_at_call 64;refine (Qb V).mono ?_;rintro e w1 ⟨rfl,rfl⟩)|(go_at_call 65;refine (Qb U _ Xd w.heap.size (Xc5 w _) X0).mono ?_;rintro e w2 ⟨aG,rfl,y,p,S⟩;obtain ⟨P,aH,rfl⟩:=Qy y;have aC:w.heap.size+1<=w2.heap.size:=(by have:=p.size;simp at this;exact this);have A:w2.heap[nb R[t].id]?=w.heap[nb R[t].id]?:=(p.block _ (by simp;omega) (Ne.symm (Qb W))).trans (heap_alloc_old w _ a3);have B:w2.heap[nb R[k].id]?=w.heap[nb R[k].id]?:=(p.block _ (by simp;omega) (Ne.symm (Qb X))).trans (heap_alloc_old w _ a4);have aI:=(Xk (nb R[t].id) 6 A).trans ab;have aJ:=(Xm (nb R[t].id) 6 A).trans ac;have aK:=(Xk (nb R[k].id) 5 B).trans ad;have aL:=(Xm (nb R[k].id) 5 B).trans ae;have Y:=Qa y;have s:=Qa p;have al:=Qa S;clear y p S A B));go_end0;refine ⟨rfl,?_⟩;have a8:((Qf R R[t].id).take i++[R[k].id]++(Qf R R[t].id).drop i).length=(Qf R R[t].id).length+1:=by simp;omega
 exact Ql.taken af.out u C D J K ag.out (.inr ⟨b,h,QV h⟩) ah.out (by omega) ⟨s.out.os,s.out.tape,s.out.output⟩ (λb h ao=>(s.out.block b (by simp;omega) ao).trans (heap_alloc_old w _ h)) (by rw [a8];exact Y.out) (λb e=>by
  rcases al.out with a|⟨aM,a,a9⟩
  ·exact .inl (a▸e)
  rw [a] at e;have:=Xb5 e;simp at a9;exact .inr (by omega))
theorem Ql.moved (d:Ql ρ nb mb rt w q R last) (E:Qx R) {t:Nat} (T:k<R.length) (U:t<R.length) (O:R[t].id≠R[k].id) (c:J3 ρ nb w R R[t] av kv) {np:Int} (Y:Qx R') (a2:{ R[k] with par:=np } ∈ R') (a0:∀ i,(∃ m,m ∈ R'/\m.id=i)↔(∃ m,m ∈ R/\m.id=i)) (K:R'.length=R.length) (a1:∀ m,m ∈ R'->m ∈ R \/ m={ R[k] with par:=np }) (a3:Qf R' R[k].id=Qf R R[k].id) (a4:∀ m,m ∈ R->m.id≠R[k].id->m.id≠R[t].id->Qf R' m.id=Qf R m.id) {L:List Int} (a9:Qf R' R[t].id=L) (V:w.heap.size<=w2.heap.size) (F:w2.os=w.os/\w2.tape=w.tape/\w2.output=w.output) (v:∀ b,b<w.heap.size->some b≠kv.ownBlock->w2.heap[b]?=w.heap[b]?) (M:w2.ownsRow 0 112 1 v' L.length (Jw nb L)) (W:∀ b,v'.ownBlock=some b->kv.ownBlock=some b \/ w.heap.size<=b) : ∃ ρ',Zj ρ ρ' w ((w2.setCell (Xa (nb R[t].id) 6) v').setCell (Xa (nb R[k].id) 5) (ZJ nb np))/\Ql ρ' nb mb rt ((w2.setCell (Xa (nb R[t].id) 6) v').setCell (Xa (nb R[k].id) 5) (ZJ nb np)) q R' last:=by
 obtain ⟨P,A,a⟩:=d.node _ (Xa0 T);have ac:(0:Int)<R[k].id:=E.pos _ (Xa0 T);have ad:(0:Int)<R[t].id:=E.pos _ (Xa0 U);have S:nb R[t].id≠nb R[k].id:=λe=>O (c.nb_inj a e); -- the heap then
 have G:∀ b,b≠nb R[t].id->b≠nb R[k].id->((w2.setCell (Xa (nb R[t].id) 6) v').setCell (Xa (nb R[k].id) 5) (ZJ nb np)).heap[b]?=w2.heap[b]?:=λb H l => (X5 l).trans (X5 H);have o:∀ b r,ρ b=some r->b≠nb R[t].id->b≠nb R[k].id->some b≠kv.ownBlock->((w2.setCell (Xa (nb R[t].id) 6) v').setCell (Xa (nb R[k].id) 5) (ZJ nb np)).heap[b]?=w.heap[b]?:=λb r e H l aa => (G b H l).trans (v b (d.low b (by rw [e];rfl)) aa);have n:∀ b r,ρ b=some r->r≠(R[t].id,2)->some b≠kv.ownBlock:=λb r e u l=>by rw [c.krole b l.symm] at e;exact u (Xb5 e).symm
 have p:∀ b r,ρ b=some r->r≠(R[t].id,0)->b≠nb R[t].id:=λb r e u l=>by subst l;rw [c.role] at e;exact u (Xb5 e).symm
 have s:∀ b r,ρ b=some r->r≠(R[k].id,0)->b≠nb R[k].id:=λb r e u l=>by subst l;rw [a.role] at e;exact u (Xb5 e).symm
 have z:∀ b,v'.ownBlock=some b->(ρ b).isSome=true->ρ b=some (R[t].id,2):=λb e g=>by
  rcases W b e with f|f
  ·exact c.krole b f
  have:=d.low b g;omega
 have h:∀ b,(ρ b).isSome=true->(if v'.ownBlock=some b then some (R[t].id,2) else ρ b)=ρ b:=λb g=>by
  by_cases e:v'.ownBlock=some b
  ·rw [if_pos e,z b e g]
  rw [if_neg e]
 have N:((w2.setCell (Xa (nb R[t].id) 6) v').setCell (Xa (nb R[k].id) 5) (ZJ nb np)).heap.size=w2.heap.size:=by rw [QJ,QJ]
 refine ⟨λb=>if v'.ownBlock=some b then some (R[t].id,2) else ρ b,⟨⟨F.1,F.2.1,F.2.2,by rw [N];exact V,λb ab I=>?_⟩,h,λb g=>?_⟩,⟨?_,?_,?_,?_,λm X=>?_,λb g=>?_,by rw [K];exact d.few⟩⟩
 ·refine (G b (λe=>I (by rw [e,c.role];rfl)) (λe=>I (by rw [e,a.role];rfl))).trans (v b ab (λe=>I (by rw [c.krole b e.symm];rfl)))
 ·by_cases e:v'.ownBlock=some b
  ·rcases W b e with f|f
   ·exact .inl (by rw [c.krole b f];rfl)
   exact .inr f
  replace g:(if v'.ownBlock=some b then some (R[t].id,2) else ρ b).isSome=true:=g;rw [if_neg e] at g;exact .inl g
 ·exact (o q _ d.role (p q _ d.role (λe=>by have:=(Xb8 e).1;omega)) (s q _ d.role (λe=>by have:=(Xb8 e).1;omega)) (n q _ d.role (λe=>by have:=(Xb8 e).1;omega))).trans d.blk
 ·exact (h q (by rw [d.role];rfl)).trans d.role
 ·exact (h mb (by rw [d.mrole];rfl)).trans d.mrole
 ·rw [K,QhU a0];exact d.map.heap (o mb _ d.mrole (p mb _ d.mrole (λe=>by have:=(Xb8 e).1;omega)) (s mb _ d.mrole (λe=>by have:=(Xb8 e).1;omega)) (n mb _ d.mrole (λe=>by have:=(Xb8 e).1;omega)))
 ·by_cases y:m.id=R[k].id
  ·have J:m={ R[k] with par:=np }:=Qfc Y X a2 y;subst J;have B:w2.heap[nb R[k].id]?=w.heap[nb R[k].id]?:=v _ a.lt (n _ _ a.role (λe=>by have:=(Xb8 e).2;omega));have C:(w2.setCell (Xa (nb R[t].id) 6) v').heap[nb R[k].id]?=some (.cells (QcI nb R[k] P A) 138 (0,0)):=(X5 (Ne.symm S)).trans (B.trans a.blk);have a5:=QcJ (i:=5) C (ZJ nb np);refine ⟨P,A,⟨?_,?_,?_,?_,?_,?_,a.few,a.rise,a.tag,a.text,a.size⟩⟩
   ·rw [a5];rfl
   ·exact (h _ (by rw [a.role];rfl)).trans a.role
   ·exact Q8 a.arow λb e=>o b _ (a.arole b e) (p b _ (a.arole b e) (λe=>by have:=(Xb8 e).2;omega)) (s b _ (a.arole b e) (λe=>by have:=(Xb8 e).2;omega)) (n b _ (a.arole b e) (λe=>by have:=(Xb8 e).2;omega))
   ·exact λb e=>(h b (by rw [a.arole b e];rfl)).trans (a.arole b e)
   ·show World.ownsRow _ _ _ _ A (Qf R' R[k].id).length (Jw nb (Qf R' R[k].id));rw [a3];exact Q8 a.krow λb e=>o b _ (a.krole b e) (p b _ (a.krole b e) (λe=>by have:=(Xb8 e).2;omega)) (s b _ (a.krole b e) (λe=>by have:=(Xb8 e).2;omega)) (n b _ (a.krole b e) (λe=>O (Xb8 e).1.symm))
   exact λb e=>(h b (by rw [a.krole b e];rfl)).trans (a.krole b e)
  have D:m ∈ R:=by
   rcases a1 m X with d|d
   ·exact d
   subst d;exact absurd rfl y
  by_cases f:m.id=R[t].id
  ·have J:m=R[t]:=Qfc E D (Xa0 U) f;subst J;have B:w2.heap[nb R[t].id]?=some (.cells (QcI nb R[t] av kv) 138 (0,0)):=(v _ c.lt (n _ _ c.role (λe=>by have:=(Xb8 e).2;omega))).trans c.blk;have C:=QcJ (i:=6) B v';refine ⟨av,v',⟨?_,?_,?_,?_,?_,?_,c.few,c.rise,c.tag,c.text,c.size⟩⟩
   ·rw [X5 S,C];rfl
   ·exact (h _ (by rw [c.role];rfl)).trans c.role
   ·exact Q8 c.arow λb e=>o b _ (c.arole b e) (p b _ (c.arole b e) (λe=>by have:=(Xb8 e).2;omega)) (s b _ (c.arole b e) (λe=>by have:=(Xb8 e).2;omega)) (n b _ (c.arole b e) (λe=>by have:=(Xb8 e).2;omega))
   ·exact λb e=>(h b (by rw [c.arole b e];rfl)).trans (c.arole b e)
   ·rw [a9];refine Q8 M λb e=>G b (λf=>?_) (λf=>?_)
    ·subst f;have:=z _ e (by rw [c.role];rfl);rw [c.role] at this;have:=(Xb8 (Xb5 this)).2;omega
    subst f;have:=z _ e (by rw [a.role];rfl);rw [a.role] at this;have:=(Xb8 (Xb5 this)).2;omega
   intro b e;show (if v'.ownBlock=some b then some (R[t].id,2) else ρ b)=_;rw [if_pos e]
  obtain ⟨a6,a7,a8⟩:=d.node m D;refine ⟨a6,a7,a8.kept (λb j e=>o b _ e (p b _ e (λx=>f (Xb8 x).1)) (s b _ e (λx=>y (Xb8 x).1)) (n b _ e (λx=>f (Xb8 x).1))) h ?_⟩;exact a4 m D y f
 rw [N];by_cases e:v'.ownBlock=some b
 ·exact Xb4 (M.lt b e).2 X0
 replace g:(if v'.ownBlock=some b then some (R[t].id,2) else ρ b).isSome=true:=g;rw [if_neg e] at g;exact Xb4 (d.low b g) V
theorem Qgh (b:k<R.length) {m:RN} (a:m ∈ QW R k):m ∈ R \/ m={ R[k] with par:=0 }:=by rw [J2 b] at a;exact Xb2 a
theorem QkA (a:k<R.length):{ R[k] with par:=0 } ∈ QW R k:=by rw [J2 a];exact mem_set a _
theorem Qdj (a:k<R.length):(QW R k).length=R.length:=by rw [J2 a,length_set]
theorem QgB (b:Qx R) (a:k<R.length):Qx (QW R k):=by rw [J2 a];exact QeN b a rfl
theorem Qih (a:k<R.length):∀ i,(∃ m,m ∈ QW R k/\m.id=i)↔(∃ m,m ∈ R/\m.id=i):=by
 intro i;constructor
 ·rintro ⟨m,b,e⟩;rcases Qgh a b with c|rfl
  ·exact ⟨m,c,e⟩
  exact ⟨R[k],Xa0 a,e⟩
 rintro ⟨m,b,e⟩;obtain ⟨j,f,rfl⟩:=Xa3 b;by_cases d:j=k
 ·subst d;exact ⟨_,QkA f,e⟩
 refine ⟨R[j],?_,e⟩;rw [J2 a];exact mem_iff_getElem.2 ⟨j,by rw [length_set];exact f,by rw [getElem_set_ne (λc=>d c.symm)]⟩
theorem Qqy (a:k<R.length) (b:R[k].par=0):QW R k=R:=by
 rw [J2 a];apply ext_getElem
 ·rw [length_set]
 intro i c d;rw [getElem_set];split
 ·rename_i e;subst e;rw [<- b]
 rfl
theorem Qis x nb D E w q R last (c:Ql x nb D E w q R last) (r:Qx R) (y:∃ rk,Up R rk) (k:Nat) (a:k<R.length) : Xl 104 #[Xp (nb R[k].id)] w λe w'=>e=.returned (.tuple #[])/\∃ ρ',Zj x ρ' w w'/\Ql ρ' nb D E w' q (QW R k) last:=by
 obtain ⟨rk,y⟩:=y;obtain ⟨ak,al,h⟩:=c.node _ (Xa0 a);by_cases s:R[k].par=0
 ·have M:w.cell? (Xa (nb R[k].id) 5)=some (.pointer none):=by have:=Qj h.blk 5 (ZJ nb R[k].par) rfl;unfold ZJ at this;rwa [if_pos s] at this
  have F:Hid (∃ ρ',Zj x ρ' w w/\Ql ρ' nb D E w q (QW R k) last):=Qa ⟨x,⟨Qi.of_below X4,λ_ _=>rfl,λ_ c=>.inl c⟩,by rw [Qqy a s];exact c⟩;clear c h;go_enter Tryz.func104,Tryz.ntmps104;go_wp2;refine bodyPost_ret (results_none rfl _ _ _) rfl ?_;exact ⟨rfl,F.out⟩
 obtain ⟨m,f,n⟩:=(y.par _ (Xa0 a)).resolve_left s;obtain ⟨t,a3,rfl⟩:=Xa3 f;obtain ⟨av,a4,d⟩:=c.node _ f;have z:R[t].id≠R[k].id:=λe=>by have:=y.rank _ (Xa0 a) s;rw [<- n,e] at this;omega
 have ao:(0:Int)<R[t].id:=r.pos _ f;have ap:(0:Int)<R[k].id:=r.pos _ (Xa0 a);have ai:=QeV R R[t].id;have aj:=c.few;obtain ⟨i,J,G,H,N⟩:=Qoa r a (q:=R[t].id) (by omega) n.symm;obtain ⟨g,l,rfl⟩:∃ g l,a4=Xe g (Qf R R[t].id).length l:=by
  rcases d.krow.2 with ⟨_,e⟩|⟨g,U,aq,e,_⟩
  ·omega
  exact ⟨g,U,e⟩
 have a5:=Qj d.blk 6 (Xe g (Qf R R[t].id).length l) rfl;have a6:=Qax d.blk 6;have M:w.cell? (Xa (nb R[k].id) 5)=some (Xp (nb R[t].id)):=by have:=Qj h.blk 5 (ZJ nb R[k].par) rfl;unfold ZJ at this;rwa [if_neg s,<- n] at this
 have a7:=Qax h.blk 5;have V:=d.lt;have W:=h.lt;have ar:nb R[t].id≠nb R[k].id:=λe=>z (d.nb_inj h e);have X:g≠nb R[t].id:=λe=>by have:=d.krole g rfl;rw [e,d.role] at this;have:=(Xb8 (Xb5 this)).2;omega
 have Y:g≠nb R[k].id:=λe=>by have:=d.krole g rfl;rw [e,h.role] at this;have:=(Xb8 (Xb5 this)).2;omega
 have P:Hid (Xl 120 #[Xe g (Qf R R[t].id).length l,Xi i,Xi ((i:Int)+1)] w λe w'=>e=.returned (Xe g ((Qf R R[t].id).length-1) l) /\ w'.ownsRow 0 112 1 (Xe g ((Qf R R[t].id).length-1) l) ((Qf R R[t].id).length-1) (Jw nb ((Qf R R[t].id).take i++(Qf R R[t].id).drop (i+1)))/\w.grownBy w' (some g)/\w'.heap.size=w.heap.size):=by have:=Qqo g (Qf R R[t].id).length l i (i+1) (Jw nb (Qf R R[t].id)) w d.krow J rfl (Qh7 _ _);rw [Nat.mul_one,Nat.mul_one] at this;unfold Jw at this ⊢;rw [map_append,map_take,map_drop];exact Qa this
 have S:Hid (Xl 64 #[Xe g (Qf R R[t].id).length l,Xp (nb R[k].id)] w λe w'=>e=.returned (Xi i)/\w=w'):=by
  refine Qa ((QkK g (Qf R R[t].id).length l ((Qf R R[t].id).map nb) (nb R[k].id) w (by simp) (by omega) i J (by rw [getElem?_map,G];rfl) (λj a8 e=>?_) (λj ah o=>?_) (λah o=>?_)).mono λ_ _ c=>⟨c.1,c.2.symm⟩)
  ·rw [getElem?_map] at e;cases p:(Qf R R[t].id)[j]? with| none=>rw [p] at e;cases e| some O =>rw [p] at e;obtain ⟨m,f,_,K⟩:=Qbb.1 (Xb0 p);obtain ⟨a9,aa,A⟩:=c.node m f;have e:=Xb5 e;rw [<- K] at e;exact H j a8 (by rw [p,<- K,A.nb_inj h e])
  ·rw [d.krow.cellAt j (by have:=(List.getElem?_eq_some_iff.1 o).1;simp at this;omega)];unfold Jw;rw [getElem?_map] at o ⊢;cases p:(Qf R R[t].id)[j]? with| none=>rw [p] at o;cases o| some O=>rw [p] at o;cases o;rfl
  obtain ⟨O,ab,rfl⟩:=Xa5.1 o;obtain ⟨m,f,_,rfl⟩:=Qbb.1 ab;obtain ⟨a9,aa,A⟩:=c.node m f;exact A.plain
 have F:=Qa c;have ac:=Qa d;have ad:=Qa N;have au:(i:Int)+1<=800:=by omega
 have a0:=Qa n;clear c d h N G H n;go_enter Tryz.func104,Tryz.ntmps104;go_wp2_with (first|(go_at_call 64;refine (Qb S).mono ?_;rintro e w1 ⟨rfl,rfl⟩)|(go_at_call 120;refine (Qb P).mono ?_;rintro e w2 ⟨rfl,I,u,L⟩;have B:w2.heap[nb R[t].id]?=w.heap[nb R[t].id]?:=u.block _ V (λe=>X (Xb5 e).symm);have C:w2.heap[nb R[k].id]?=w.heap[nb R[k].id]?:=u.block _ W (λe=>Y (Xb5 e).symm);have aw:=(Xk (nb R[t].id) 6 B).trans a5;have ax:=(Xm (nb R[t].id) 6 B).trans a6;have ay:=(Xk (nb R[k].id) 5 C).trans M;have az:=(Xm (nb R[k].id) 5 C).trans a7;have T:=Qa I;have v:=Qa u;have a1:=Qa L;clear I u L B C));go_end0;have n:=a0.out;refine ⟨rfl,?_⟩;have a2:((Qf R R[t].id).take i++(Qf R R[t].id).drop (i+1)).length=(Qf R R[t].id).length-1:=by simp;omega
 refine Ql.moved (np:=0) F.out r a a3 z ac.out (QgB r a) (QkA a) (Qih a) (Qdj a) (λm f=>Qgh a f) (Qkl a (by omega) (λe=>by rw [<- n] at e;exact z e)) (λm f _ ae=>Qkl a (by have:=r.pos m f;omega) (λe=>by rw [<- n] at e;exact ae e.symm)) ad.out (Nat.le_of_eq a1.out.symm) ⟨v.out.os,v.out.tape,v.out.output⟩ (λb af ag=>v.out.block b af ag) (by rw [a2];exact T.out) (λb e=>.inl e)
theorem Que {n:RN} (a:J3 ρ nb w R n av kv) : Xl 102 #[Xp (nb n.id)] w λe w'=>e=.returned (.bool (!n.tag.toList.isEmpty))/\w'=w:=by have b:=Qj a.blk 2 (.string n.tag) rfl;clear a;cases c:n.tag.toList.isEmpty with| true =>go_enter Tryz.func102,Tryz.ntmps102;go_wp2;go_ret;exact ⟨by simp_all,rfl⟩| false =>go_enter Tryz.func102,Tryz.ntmps102;go_wp2;go_ret;exact ⟨by simp_all,rfl⟩
def QeH (b:Qz) (rk:Int->Nat) (v:Value):Nat:=match v with|.pointer (some a)=>(match b a.block with|some (i,_)=>rk i+1|none=>0)|_=>0
theorem QkO {i:Int} (a:ρ b=some (i,j)):QeH ρ rk (Xp b)=rk i+1:=by unfold QeH;simp [a]
theorem QtT (a:Qz) (rk:Int->Nat):QeH a rk (.pointer none)=0:=rfl
theorem Qog o nb T U w q R last (l:Ql o nb T U w q R last) (D:Qx R) rk (E:Up R rk) (i j:Nat) (F:i<R.length) (V:j<R.length) : Xl 103 #[Xp (nb R[i].id),Xp (nb R[j].id)] w λe w'=>e=.returned (.bool (Zs R (rk R[i].id+1) R[i].id R[j].id))/\w'=w:=by
 obtain ⟨a1,a2,r⟩:=l.node _ (Xa0 V);have K:=r.plain;have G:=Qa l;have H:=Qa E;have y:=Qa D;have L:=Qa r;clear l E D r;go_enter Tryz.func103,Tryz.ntmps103;go_wp2;go_loopw [0] (λv wr=>wr=w/\∃ (x:Int) (m:Nat),v=ZJ nb x/\Hid (x=0 \/ rk x<m)/\Hid (x=0 \/ ∃ k,∃ c:k<R.length,R[k].id=x)/\Hid (Zs R m x R[j].id=Zs R (rk R[i].id+1) R[i].id R[j].id)) (λv _=>QeH o rk v)
 ·have:=y.out.pos _ (Xa0 F);exact ⟨rfl,R[i].id,rk R[i].id+1,by unfold ZJ;rw [if_neg (by omega)],Qa (.inr (Xd2 _)),Qa (.inr ⟨i,F,rfl⟩),rfl⟩
 case round =>
  obtain ⟨rfl,x,m,rfl,I,W,b⟩:=hrel;by_cases d:x=0
  ·subst d;have g:Hid (Zs R (rk R[i].id+1) R[i].id R[j].id=false):=by rw [<- b.out];exact Qkk R m _
   have a3:ZJ nb 0=.pointer none:=rfl;clear b;go_wp2;go_ret;exact ⟨Zm g.out.symm,rfl⟩
  have I:=I.out.resolve_left d;obtain ⟨m,rfl⟩:∃ X,m=X+1:=⟨m-1,by omega⟩;obtain ⟨k,c,s⟩:=W.out.resolve_left d;obtain ⟨a4,a5,p⟩:=G.out.node _ (Xa0 c);have t:ZJ nb x=Xp (nb R[k].id):=by unfold ZJ;rw [if_neg d,s]
  have A:=QcP p.plain K;have Y:=Qj p.blk 5 (ZJ nb R[k].par) rfl;have J:=Qa p;have n:=Qa s;clear p s;rw [t];by_cases a:R[k].id=R[j].id
  ·have g:Hid (Zs R (rk R[i].id+1) R[i].id R[j].id=true):=by rw [<- b.out,Zs,if_neg d,if_pos (by rw [<- n.out];exact a)];exact rfl
   rw [a,beq_self_eq_true] at A;rw [a] at Y t ⊢;clear b a;go_wp2;go_ret;exact ⟨Zm g.out.symm,rfl⟩
  have B:(nb R[k].id==nb R[j].id)=false:=by rw [beq_eq_false_iff_ne];exact λe=>a (J.out.nb_inj L.out e)
  rw [B] at A;have g:Hid (Zs R m R[k].par R[j].id=Zs R (rk R[i].id+1) R[i].id R[j].id):=by
   have M:Qb9 R x=R[k].par:=by unfold Qb9;rw [<- n.out,Qgx y.out c];exact Qbs c
   rw [<- b.out,Zs,if_neg d,if_neg (λe=>a (by rw [n.out];exact e)),M];exact rfl
  have z:Hid (R[k].par=0 \/ ∃ h,∃ f:h<R.length,R[h].id=R[k].par):=by
   rcases H.out.par R[k] (Xa0 c) with e|⟨a9,a0,e⟩
   ·exact Qa (.inl e)
   obtain ⟨h,f,rfl⟩:=Xa3 a0;exact Qa (.inr ⟨h,f,e⟩)
  have u:R[k].par=0 \/ rk R[k].par<rk R[k].id:=by
   by_cases e:R[k].par=0
   ·exact .inl e
   exact .inr (H.out.rank R[k] (Xa0 c) e)
  have N:Hid (R[k].par=0 \/ rk R[k].par<m):=by
   rcases u with e|e
   ·exact Qa (.inl e)
   have:=n.out;rw [this] at e;exact Qa (.inr (by omega))
  have O:Hid (QeH o rk (ZJ nb R[k].par)<QeH o rk (Xp (nb R[k].id))):=by
   rw [QkO J.out.role];rcases z.out with e|⟨h,f,e⟩
   ·unfold ZJ;rw [if_pos e,QtT];exact Qa (Nat.succ_pos _)
   obtain ⟨a6,a7,P⟩:=G.out.node _ (Xa0 f);have a8:=y.out.pos _ (Xa0 f);unfold ZJ;rw [if_neg (by omega),<- e,QkO P.role,e];exact Qa (by rcases u with l|l;omega;omega)
  clear b u B a;generalize C:ZJ nb R[k].par=pv at *;have S:=Qa C;clear C t;go_wp2;go_roundw;·exact ⟨trivial,R[k].par,m,S.out.symm,N,z,g⟩
  exact O.out
theorem Qt (a:Below B w w0) (n:Nat):Below B w (w0.drewN n):=⟨a.os,a.tape,a.output,a.size,a.block⟩
theorem Jf (d:Ql ρ nb mb rt w q R last) (c:k<R.length) (a:Qu R[k].id):Hid (∀ w1,Xb w w1->(Instr.lookup 111 (.map (some mb)) (Xi R[k].id) false).run Tryz.prog w1=.ok (Xp (nb R[k].id)) w1):=Qa λw1 b=>by have:=(d.below b).map.look a;rw [Qdr (getElem_mem c)] at this;exact this
theorem Qeh (d:Ql ρ nb mb rt w q R last) {i:Int} (c:Qu i) (a:∀ n,n ∈ R->n.id≠i):Hid (∀ w1,Xb w w1->(Instr.lookup 111 (.map (some mb)) (Xi i) false).run Tryz.prog w1=.ok (.pointer none) w1):=Qa λw1 b=>by have:=(d.below b).map.look c;rw [Qen a] at this;exact this
theorem Qa3 (a:Ql ρ nb mb rt w q R last) (c:k<R.length) {b:Bool} (d:(!R[k].tag.toList.isEmpty)=b):Hid (∀ w1,Xb w w1->Xl 102 #[Xp (nb R[k].id)] w1 λe w'=>e=.returned (.bool b)/\w1=w'):=Qa λw1 f=>by obtain ⟨h,i,g⟩:=a.node _ (Xa0 c);have:=Que (g.kept (R':=R) (w':=w1) (ρ':=ρ) (λb j e=>f.block b (a.low b (by rw [e];rfl))) (λ_ _=>rfl) rfl);rw [d] at this;exact this.mono λ_ _ a=>⟨a.1,a.2.symm⟩
theorem Qem (a:Ql ρ nb mb rt w q R last) (d:Qx R) (f:Up R rk) (g:i<R.length) (h:j<R.length) {b:Bool} (c:Zs R (rk R[i].id+1) R[i].id R[j].id=b):Hid (∀ w1,Xb w w1->Xl 103 #[Xp (nb R[i].id),Xp (nb R[j].id)] w1 λe w'=>e=.returned (.bool b)/\w1=w'):=Qa λw1 k=>by have:=Qog ρ nb mb _ w1 q R last (a.below k) d rk f i j g h;rw [c] at this;exact this.mono λ_ _ a=>⟨a.1,a.2.symm⟩
theorem Qdc (f:Ql ρ nb mb rt w q R last) (h:k<R.length) (i:r<R.length) (a:R[r].id=1) (g:R[k].id≠1):Hid (∀ w1,Xb w w1->(binOp .eql 112 (Xp (nb R[k].id)) (Xp (nb 1))).run Tryz.prog w1=.ok (.bool false) w1):=Qa λw1 d=>by
 obtain ⟨m,n,b⟩:=f.node _ (Xa0 h);obtain ⟨o,p,c⟩:=f.node _ (Xa0 i);have j:J7 w1 (nb R[k].id):=⟨_,_,(d.block _ b.lt).trans b.blk⟩;have l:J7 w1 (nb 1):=by rw [<- a];exact ⟨_,_,(d.block _ c.lt).trans c.blk⟩
 rw [QcP j l];have:(nb R[k].id==nb 1)=false:=by rw [beq_eq_false_iff_ne,<- a];exact λe=>g ((b.nb_inj c e).trans a)
 rw [this]
theorem QbN {a b c d f g h i:Value} (j:w.alloc (.cells #[a,b,c,d,f,g,h,i] t)=w0):Xb w w0/\w.heap.size<w0.heap.size/\w0.cell? (Xa w.heap.size 0)=some a/\w0.cell? (Xa w.heap.size 1)=some b/\w0.cell? (Xa w.heap.size 2)=some c/\w0.cell? (Xa w.heap.size 3)=some d/\w0.cell? (Xa w.heap.size 4)=some f/\w0.cell? (Xa w.heap.size 5)=some g/\w0.cell? (Xa w.heap.size 6)=some h/\w0.cell? (Xa w.heap.size 7)=some i:=by subst j;exact ⟨Xd,by simp,by simp [go_sem],by simp [go_sem],by simp [go_sem],by simp [go_sem],by simp [go_sem],by simp [go_sem],by simp [go_sem],by simp [go_sem]⟩
variable {ρ':Qz}
theorem QoY {n:RN} (g:k<R.length) (d:n.id=R[k].id):∀ i,(∃ m,m ∈ R.set k n/\m.id=i)↔(∃ m,m ∈ R/\m.id=i):=by
 intro i;constructor
 ·rintro ⟨m,a,e⟩;rcases Xb2 a with b|rfl
  ·exact ⟨m,b,e⟩
  exact ⟨R[k],Xa0 g,by rw [<- d];exact e⟩
 rintro ⟨m,a,e⟩;obtain ⟨j,f,rfl⟩:=Xa3 a;by_cases c:j=k
 ·subst c;exact ⟨n,mem_set f n,by rw [d];exact e⟩
 exact ⟨R[j],mem_iff_getElem.2 ⟨j,by rw [length_set];exact f,by rw [getElem_set_ne (λb=>c b.symm)]⟩,e⟩
theorem Ql.put (a:Ql ρ nb mb rt w q R last) (h:Qx R) (c:k<R.length) {n':RN} (d:n'.id=R[k].id) (i:n'.par=R[k].par) (g:∀ b,(ρ b).isSome=true->ρ' b=ρ b) (n:∀ b,(ρ' b).isSome=true->b<w'.heap.size) (f:∀ b r,ρ b=some r->r.1≠R[k].id->w'.heap[b]?=w.heap[b]?) {kv':Value} (o:J3 ρ' nb w' R n' av' kv'):Ql ρ' nb mb rt w' q (R.set k n') last:=by
 have x:=h.pos _ (Xa0 c);refine ⟨(f q _ a.role (by show (0:Int)≠_;omega)).trans a.blk,(g q (by rw [a.role];rfl)).trans a.role,(g mb (by rw [a.mrole];rfl)).trans a.mrole,?_,λm l=>?_,n,by rw [length_set];exact a.few⟩
 ·rw [length_set,QhU (QoY c d)];exact a.map.heap (f mb _ a.mrole (by show (0:Int)≠_;omega))
 by_cases e:m.id=R[k].id
 ·have:m=n':=Qfc (QeN h c d) l (mem_set c n') (e.trans d.symm);subst this;exact ⟨av',kv',o.kept (λ_ _ _=>rfl) (λ_ _=>rfl) (Qgz c d i m.id)⟩
 have p:m ∈ R:=by
  rcases Xb2 l with a|rfl
  ·exact a
  exact absurd d e
 obtain ⟨s,t,u⟩:=a.node m p;exact ⟨s,t,u.kept (λb j v=>f b _ v e) g (Qgz c d i m.id)⟩
theorem Qp0 r nb d s w q R last (b:Ql r nb d s w q R last) (f id pa bf g:Int) (h nm i:ByteArray) (k:Qu id) (l:∀ n,n ∈ R->n.id≠id) : Xl 91 #[Xp q,.agg #[Xi f,Xi id,Xi pa,Xi bf,Xi g,.string h,.string nm,.string i]] w λe w'=>e=.returned (.bool false)/\Xb w w':=by have j:=Qj b.blk 1 (.map (some d)) rfl;have m:=Q9 b.blk;have o:=Qeh b k l;clear b;go_enter Tryz.func91,Tryz.ntmps91;go_wp2_with fail;generalize c:w.alloc (.cells #[Xi f,Xi id,Xi pa,Xi bf,Xi g,.string h,.string nm,.string i] 29)=t;obtain ⟨a,u,-,v,-,-,-,-,-,-⟩:=QbN c;have x:=(Xh a q 1 m).trans j;have y:=λn=>o.out (t.drewN n) (Qt a n);have p:=Qa a;clear c a j;go_big_quiet (fail);go_wp2;go_ret;exact ⟨rfl,Qt p.out _⟩
theorem Qvv y nb i z w q R last (a:Ql y nb i z w q R last) (j id pa bf l:Int) (m nm f:ByteArray) (k:Nat) (g:k<R.length) (t:Qu R[k].id) (r:R[k].id=id) (s:R[k].tag.toList.isEmpty=false) : Xl 91 #[Xp q,.agg #[Xi j,Xi id,Xi pa,Xi bf,Xi l,.string m,.string nm,.string f]] w λe w'=>e=.returned (.bool false)/\Xb w w':=by
 subst r;obtain ⟨C,D,A⟩:=a.node _ (Xa0 g);have o:=Qj a.blk 1 (.map (some i)) rfl;have u:=Q9 a.blk;have v:=Jf a g t;have x:=Qa3 a g (b:=true) (by rw [s];rfl);clear a A;go_enter Tryz.func91,Tryz.ntmps91;go_wp2_with fail;generalize c:w.alloc (.cells #[Xi j,Xi R[k].id,Xi pa,Xi bf,Xi l,.string m,.string nm,.string f] 29)=p;have d:=Xt c;have B:w.heap.size<p.heap.size:=by rw [<- c];simp
 have E:=Xz c 1 (Xi R[k].id) rfl;have F:=Xz c 7 (.string f) rfl;have G:=(Xh d q 1 u).trans o;have H:=λn=>v.out (p.drewN n) (Qt d n);have h:=Qa d;clear c d o;go_big_quiet (fail);go_wp2_with (first|(go_at_call 102;refine (Qb x _ (Qt (Qb h) _)).mono ?_;rintro e w1 ⟨rfl,rfl⟩));go_ret;exact ⟨rfl,Qt h.out _⟩
theorem Qwb B nb i C w q R last (a:Ql B nb i C w q R last) (j id pa bf l:Int) (m nm c:ByteArray) (k:Nat) (g:k<R.length) (t:Qu R[k].id) (r:R[k].id=id) (s:R[k].tag.toList.isEmpty=true) (u:c.size<=maxLen) (v:ZD c=false) : Xl 91 #[Xp q,.agg #[Xi j,Xi id,Xi pa,Xi bf,Xi l,.string m,.string nm,.string c]] w λe w'=>e=.returned (.bool false)/\Xb w w':=by
 subst r;obtain ⟨F,G,D⟩:=a.node _ (Xa0 g);have o:=Qj a.blk 1 (.map (some i)) rfl;have x:=Q9 a.blk;have y:=Jf a g t;have z:=Qa3 a g (b:=false) (by rw [s];rfl);have A:Hid (∀ w1,Xl 99 #[.string c] w1 λe w'=>e=.returned (.bool false)/\w1=w'):=Qa λw1=>(QcU c _ v u w1).mono λ_ _ a=>⟨a.1,a.2.symm⟩;clear a D;go_enter Tryz.func91,Tryz.ntmps91;go_wp2_with fail;generalize d:w.alloc (.cells #[Xi j,Xi R[k].id,Xi pa,Xi bf,Xi l,.string m,.string nm,.string c] 29)=p;have f:=Xt d;have E:w.heap.size<p.heap.size:=by rw [<- d];simp
 have H:=Xz d 1 (Xi R[k].id) rfl;have I:=Xz d 7 (.string c) rfl;have J:=(Xh f q 1 x).trans o;have K:=λn=>y.out (p.drewN n) (Qt f n);have h:=Qa f;clear d f o;go_big_quiet (fail);go_wp2_with (first|(go_at_call 102;refine (Qb z _ (Qt (Qb h) _)).mono ?_;rintro e w1 ⟨rfl,rfl⟩)|(go_at_call 99;refine (Qb A _).mono ?_;rintro e w1 ⟨rfl,rfl⟩));go_ret;exact ⟨rfl,Qt h.out _⟩
theorem Qwy h nb u B w q R last (d:Ql h nb u B w q R last) (C id pa bf D:Int) (E nm a:ByteArray) (k:Nat) (o:k<R.length) (J:Qu R[k].id) (H:R[k].id=id) (T:Qx R) (I:R[k].tag.toList.isEmpty=true) (z:a.size<=maxLen) (K:a.size<=281474976710656) (L:ZD a=true) : Xl 91 #[Xp q,.agg #[Xi C,Xi id,Xi pa,Xi bf,Xi D,.string E,.string nm,.string a]] w λe w'=>e=.returned (.bool true)/\∃ ρ',Zj h ρ' w w'/\Ql ρ' nb u B w' q (R.set k { R[k] with text:=a }) last:=by
 subst H;obtain ⟨U,V,j⟩:=d.node _ (Xa0 o);have F:=Qj d.blk 1 (.map (some u)) rfl;have M:=Q9 d.blk;have N:=Jf d o J;have O:=Qa3 d o (b:=false) (by rw [I];rfl);have P:Hid (∀ w1,Xl 99 #[.string a] w1 λe w'=>e=.returned (.bool true)/\w1=w'):=Qa λw1=>(QcU a _ L z w1).mono λ_ _ d=>⟨d.1,d.2.symm⟩;have S:Hid (∀ w1,Xl 63 #[.string a] w1 λe w'=>e=.returned (.string a)/\Xb w1 w'):=Qa λw1=>Qc5 a w1 K;have W:=Qj j.blk 3 (.string R[k].text) rfl;have X:=Qax j.blk 3;have s:=j.lt;have v:=Qa d;have c:=Qa j;clear d j;go_enter Tryz.func91,Tryz.ntmps91;go_wp2_with fail;generalize g:w.alloc (.cells #[Xi C,Xi R[k].id,Xi pa,Xi bf,Xi D,.string E,.string nm,.string a] 29)=G;have l:=Xt g;have a1:w.heap.size<G.heap.size:=by rw [<- g];simp
 have a2:=Xz g 1 (Xi R[k].id) rfl;have a3:=Xz g 7 (.string a) rfl;have a4:=(Xh l q 1 M).trans F;have a5:=λn=>N.out (G.drewN n) (Qt l n);have t:=Qa l;clear g l F;go_big_quiet (fail);go_wp2_with (first|(go_at_call 102;refine (Qb O _ (Qt (Qb t) _)).mono ?_;rintro e w1 ⟨rfl,rfl⟩)|(go_at_call 99;refine (Qb P _).mono ?_;rintro e w1 ⟨rfl,rfl⟩)|(go_at_call 63;refine (Qb S _).mono ?_;rintro e w2 ⟨rfl,A⟩;have m:Xb w w2:=(Qt (Qb t) _).trans (A.mono (Qb t).size);have a6:=(Xh m (nb R[k].id) 3 s).trans W;have a7:=(Xj m (nb R[k].id) 3 s).trans X;have f:=Qa m;clear A m));go_ret;refine ⟨rfl,h,⟨⟨f.out.os,f.out.tape,f.out.output,by rw [QJ];exact f.out.size,λb Y a0=>?_⟩,λ_ _=>rfl,λ_ d=>.inl d⟩,?_⟩
 ·exact (X5 (λe=>a0 (by rw [e];show (h (nb R[k].id)).isSome=true;rw [c.out.role];rfl))).trans (f.out.block b Y)
 have p:∀ b r,h b=some r->r≠(R[k].id,0)->(w2.setCell (Xa (nb R[k].id) 3) (.string a)).heap[b]?=w.heap[b]?:=λb r e y=>by refine (X5 (λx=>y ?_)).trans (f.out.block b (v.out.low b (by rw [e];rfl)));have x:b=nb R[k].id:=x;rw [x,c.out.role] at e;exact (Xb5 e).symm
 refine Ql.put (n':={ R[k] with text:=a }) (av':=U) (kv':=V) v.out T o rfl rfl (λ_ _=>rfl) (λb e=>by rw [QJ];exact Xb4 (v.out.low b e) f.out.size) (λb r e y=>p b r e (λx=>y (by rw [x]))) ⟨?_,c.out.role,?_,c.out.arole,?_,c.out.krole,c.out.few,c.out.rise,c.out.tag,z,c.out.size⟩
 ·have:=QcJ (i:=3) ((f.out.block _ s).trans c.out.blk) (.string a);exact this
 ·exact Q8 c.out.arow λb e=>p b _ (c.out.arole b e) (λx=>by have:=(Xb8 x).2;omega)
 exact Q8 c.out.krow λb e=>p b _ (c.out.krole b e) (λx=>by have:=(Xb8 x).2;omega)
end Go.Proofs.YtobgcaemnpkbmaaGreat
