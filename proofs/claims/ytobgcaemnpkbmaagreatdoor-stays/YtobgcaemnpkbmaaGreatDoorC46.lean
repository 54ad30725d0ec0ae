import Derived.Test.YtobgcaemnpkbmaaGreatDoorC43
namespace Go.Proofs.YtobgcaemnpkbmaaGreatDoor
set_option maxRecDepth 100000
set_option maxHeartbeats 8000000
open Go.RowKit List
theorem QeN:∀ (l:List (Nat × Nat)) (a n:Nat),Qac l a n->a<=n| [],a,n,h=>Nat.le_of_eq h| p::l,a,n,⟨h1,h2,h3⟩=>by have:=QeN l _ _ h3;omega
theorem QiV {P:Nat->Prop} {n:Nat}:∀ (l b:List (Nat × Nat)) (a:Nat),Qac l a n->Qac b a n->(∀ p,p ∈ l->P p.1/\∀ i,p.1<i->i<p.2->¬ P i)->(∀ p,p ∈ b->P p.1/\∀ i,p.1<i->i<p.2->¬ P i)->l=b
 | [],[],_,_,_,_,_=>rfl| [],q::b,a,h,⟨h1,h2,h3⟩,_,_=>by have e:a=n:=h;have:=QeN _ _ _ h3;omega| p::l,[],a,⟨h1,h2,h3⟩,h,_,_=>by have e:a=n:=h;have:=QeN _ _ _ h3;omega
 | p::l,q::b,a,⟨h1,h2,h3⟩,⟨k1,k2,k3⟩,hl,hl'=>by
  have k:=QeN _ _ _ h3;have m:=QeN _ _ _ k3;have f:=hl p (mem_cons_self ..);have g:=hl' q (mem_cons_self ..);have o:¬ p.2<q.2:=λc=>by cases l with| nil=>have e:p.2=n:=h3;omega| cons r l =>have e:=(hl r (mem_cons_of_mem _ (mem_cons_self ..))).1;rw [h3.1] at e;exact g.2 p.2 (by omega) c e
  have s:¬ q.2<p.2:=λc=>by cases b with| nil=>have e:q.2=n:=k3;omega| cons r b =>have e:=(hl' r (mem_cons_of_mem _ (mem_cons_self ..))).1;rw [k3.1] at e;exact f.2 q.2 (by omega) c e
  have j:p.2=q.2:=by omega
  have e:p=q:=Prod.ext (by omega) j;subst e;rw [QiV l b p.2 h3 k3 (λr d=>hl r (mem_cons_of_mem _ d)) (λr d=>hl' r (mem_cons_of_mem _ d))]
def QbF:Nat->List (List Pn)->List (Nat × Nat)
 | _,[]=>[]
 | o,b::bs=>(o,o+b.length)::QbF (o+b.length) bs
theorem Qgb:∀ (c:Nat) (a:List (List Pn)),(QbF c a).length=a.length| _,[]=>rfl| c,b::a=>by rw [QbF,length_cons,length_cons,Qgb]
theorem QlE:∀ (a:Nat) (d:List (List Pn)),(∀ b,b ∈ d->0<b.length)->Qac (QbF a d) a (a+d.flatten.length)| a,[],_=>rfl| a,b::d,h=>by refine ⟨rfl,by have:=h b (mem_cons_self ..);show a<a+b.length;omega,?_⟩;have:=QlE (a+b.length) d λc f=>h c (mem_cons_of_mem _ f);rw [List.flatten_cons,length_append,<- Nat.add_assoc];exact this
theorem Qhl:∀ (d:Nat) (f:List (List Pn)) (k:Nat) (b:List Pn),f[k]?=some b->∃ a,d<=a/\(QbF d f)[k]?=some (a,a+b.length)/\∀ (i:Nat) x,b[i]?=some x->f.flatten[a-d+i]?=some x
 | _,[],k,b,h=>by simp at h
 | d,c::f,0,b,h=>by
  have e:c=b:=by simpa using h
  subst e;refine ⟨d,Nat.le_refl _,rfl,λi x g=>?_⟩;have j:=(List.getElem?_eq_some_iff.1 g).1;rw [List.flatten_cons,Nat.sub_self,Nat.zero_add,getElem?_append_left j];exact g
 | d,c::f,k+1,b,h=>by obtain ⟨a,n,l,m⟩:=Qhl (d+c.length) f k b (by simpa using h);refine ⟨a,by omega,by rw [QbF,getElem?_cons_succ];exact l,λi x g=>?_⟩;rw [List.flatten_cons,getElem?_append_right (by omega),show a-d+i-c.length=a-(d+c.length)+i by omega];exact m i x g
def QdA (L:Nat->Qd) (s:Nat) (l:List Pn):Prop:=∀ (i:Nat) a,l[i]?=some a->(L (s+i)).d=a.d/\(L (s+i)).t=a.tag/\(L (s+i)).k=a.key
def Qau:List Pn->ByteArray × Int
 | []=>(⟨#[]⟩,0)
 | x::_=>(x.tag,x.key)
structure Blk (d:Int) (bs:List (List Pn)):Prop where
 each:∀ b,b ∈ bs->∃ y r,b=y::r/\y.d=d+1/\∀ z,z ∈ r->d+1<z.d
 labs:(bs.map Qau).Nodup
theorem Blk.inj {d:Int} {a:List (List Pn)} (h:Blk d a) {i j:Nat} {b c:List Pn} (n:a[i]?=some b) (o:a[j]?=some c) (e:Qau b=Qau c):i=j:=by
 have p:(a.map Qau)[i]?=some (Qau b):=by rw [getElem?_map,n];rfl
 have r:(a.map Qau)[j]?=some (Qau b):=by rw [getElem?_map,o,e];rfl
 obtain ⟨f,g⟩:=List.getElem?_eq_some_iff.1 p;obtain ⟨k,l⟩:=List.getElem?_eq_some_iff.1 r;have m:=pairwise_iff_getElem.1 h.labs;rcases Nat.lt_trichotomy i j with q|q|q
 ·exact absurd (g.trans l.symm) (m i j f k q)
 ·exact q
 exact absurd (l.trans g.symm) (m j i k f q)
theorem QlM {L:Nat->Qd} {s:Nat} {x:Pn} {c:List (List Pn)} (j:QdA L s (x::c.flatten)) (u:Blk x.d c):QD L s (x::c.flatten).length=QbF 1 c:=by
 have l:=j 0 x rfl;rw [Nat.add_zero] at l;have A:∀ b,b ∈ c->0<b.length:=λb hb=>by obtain ⟨q,r,e,_⟩:=u.each b hb;rw [e];simp
 have t:∀ (k:Nat) b a,c[k]?=some b->1<=a->(∀ (i:Nat) x,b[i]?=some x->c.flatten[a-1+i]?=some x)->(L (s+a)).d=x.d+1/\∀ i,a<i->i<a+b.length->(L (s+i)).d≠x.d+1:=λk b a g G f=>by
  obtain ⟨q,r,e,C,E⟩:=u.each b (mem_of_getElem? g);refine ⟨?_,λi v h=>?_⟩
  ·have:=f 0 q (by rw [e];rfl);have:=(j (a-1+0+1) q (by rw [getElem?_cons_succ];exact this)).1;rw [show a-1+0+1=a by omega] at this;rw [this,C]
  obtain ⟨z,m⟩:∃ z,b[i-a]?=some z:=⟨_,getElem?_eq_getElem (by omega)⟩;have B:z ∈ r:=by rw [e,show i-a=(i-a-1)+1 by omega,getElem?_cons_succ] at m;exact mem_of_getElem? m
  have:=f (i-a) z m;have:=(j (a-1+(i-a)+1) z (by rw [getElem?_cons_succ];exact this)).1;rw [show a-1+(i-a)+1=i by omega] at this;rw [this];have:=E z B;omega
 unfold QD;refine QiV (P:=λi=>(L (s+i)).d=x.d+1) (n:=(x::c.flatten).length) _ _ 1 (Qem _ (by simp)) ?_ (λp o=>?_) (λp o=>?_)
 ·have:=QlE 1 c A;rw [length_cons,Nat.add_comm];exact this
 ·have:=QeM (D:=λi=>(L (s+i)).d) (by simp) (λh=>by cases c with| nil=>simp at h| cons b c =>have:=(t 0 b 1 rfl (Nat.le_refl _) λi x f=>by rw [List.flatten_cons,Nat.sub_self,Nat.zero_add,getElem?_append_left (List.getElem?_eq_some_iff.1 f).1];exact f).1;show (L (s+1)).d=(L s).d+1;rw [this,l.1]) o;simp only [Nat.add_zero,l.1] at this;exact this
 obtain ⟨k,g,e⟩:=getElem_of_mem o;rw [Qgb] at g;obtain ⟨b,hb⟩:∃ b,c[k]?=some b:=⟨_,getElem?_eq_getElem g⟩;obtain ⟨a,v,h,F⟩:=Qhl 1 c k b hb;have y:=(List.getElem?_eq_some_iff.1 h).2;rw [e] at y;rw [y];exact t k b a hb v F
def Sup:Nat->List Pn->List Pn->Prop
 | 0,_,_=>False
 | f+1,l0,l=>∃ a x c g,l0=a::c.flatten/\l=x::g.flatten/\a.d=x.d/\a.tag=x.tag/\a.key=x.key/\Blk a.d c/\Blk x.d g/\∀ h,h ∈ c->∃ b,b ∈ g/\Qau b=Qau h/\Sup f h b
theorem Sup.more:∀ {f g:Nat} {a l:List Pn},Sup f a l->f<=g->Sup g a l
 | 0,_,_,_,h,_=>h.elim
 | f+1,0,_,_,_,hg=>by omega
 | f+1,g+1,_,_,⟨x0,x,bs0,bs,h1,h2,h3,h4,h5,h6,h7,h8⟩,hg=>⟨x0,x,bs0,bs,h1,h2,h3,h4,h5,h6,h7,λi hb=>by
  obtain ⟨b,k,m,n⟩:=h8 i hb
  exact ⟨b,k,m,n.more (by omega)⟩⟩
inductive Dep (T:Int->NI):Int->Int->Int->Int->Prop
 | self (id d:Int):Dep T id d id d
 | step {id d c j e:Int}:c ∈ (T id).kids->Dep T c (d+1) j e->Dep T id d j e
theorem QlN {α:Type} {l:List α} {i:Nat} {x:α} (d:α) (h:l[i]?=some x):l.getD i d=x:=by rw [getD_eq_getElem?_getD,h];rfl
theorem Qgn {L:Nat->Qd} {s:Nat} {x:Pn} {c:List (List Pn)} (j:QdA L s (x::c.flatten)) (l:Blk x.d c) {k:Nat} {b:List Pn} (h:c[k]?=some b):∃ a,(QbF 1 c).getD k (0,0)=(a,a+b.length)/\QdA L (s+a) b/\((L (s+a)).t,(L (s+a)).k)=Qau b:=by
 obtain ⟨a,p,m,n⟩:=Qhl 1 c k b h;have g:QdA L (s+a) b:=λi f o=>by have:=j (a-1+i+1) f (by rw [getElem?_cons_succ];exact n i f o);rw [show s+(a-1+i+1)=s+a+i by omega] at this;exact this
 refine ⟨a,QlN _ m,g,?_⟩;obtain ⟨f,r,e,_⟩:=l.each b (mem_of_getElem? h);have:=g 0 f (by rw [e];rfl);rw [Nat.add_zero] at this;rw [e,this.2.1,this.2.2];rfl
theorem QjJ {R R':List RN} {U L:Nat->Qd}:∀ (f g h:Nat) (id:Int) (B s:Nat) (C l:List Pn),Sup f C l->QdA U B C->QdA L s l->Jm R U g id B C.length->Jm R' L h id s l.length->Qba R' (Qc R) L h id (Qc R id).kids s l.length->∀ d j e,Dep (Qc R) id d j e->Dep (Qc R') id d j e/\(Qc R' j).tag=(Qc R j).tag/\(Qc R' j).key=(Qc R j).key
 | 0,_,_,_,_,_,_,_,hs,_,_,_,_,_=>hs.elim| _+1,0,_,_,_,_,_,_,_,_,_,n,_,_=>n.elim| _+1,_+1,0,_,_,_,_,_,_,_,_,_,n,_=>n.elim
 | f+1,g+1,h+1,id,B,s,C,l,⟨x0,x,bs0,bs,e0,e1,ed,et,ek,hB0,hB,hall⟩,hm0,hm,⟨t1,t2,t3,t4,t5,t6,t7⟩,⟨u1,u2,u3,u4,u5,u6,u7⟩,hk=>by
  subst e0 e1;rw [QlM hm0 hB0] at t6 t7;unfold Qba at hk;rw [QlM hm hB] at u6 u7 hk;rw [Qgb] at t6 t7 u6 u7 hk;intro d j e I;cases I with
  | self =>have J:=hm0 0 x0 rfl;have m:=hm 0 x rfl;rw [Nat.add_zero] at J m;exact ⟨.self _ _,by rw [u2,t2,m.2.1,J.2.1,et],by rw [u3,t3,m.2.2,J.2.2,ek]⟩
  | @step _ _ c _ _ a6 I =>
   obtain ⟨y,a1,a7⟩:=getElem_of_mem a6;have A:y<bs0.length:=by omega
   obtain ⟨K,E⟩:∃ b,bs0[y]?=some b:=⟨_,getElem?_eq_getElem A⟩;obtain ⟨b,a2,Y,a0⟩:=hall K (mem_of_getElem? E);obtain ⟨k,v,a3⟩:=getElem_of_mem a2;have hb:bs[k]?=some b:=by rw [getElem?_eq_getElem v,a3]
   -- the labels on both sides
   have M:∀ i,i<bs0.length->∀ o,bs0[i]?=some o->((Qc R ((Qc R id).kids.getD i 0)).tag,(Qc R ((Qc R id).kids.getD i 0)).key)=Qau o:=λi V o F=>by obtain ⟨a,z,N,O⟩:=Qgn hm0 hB0 F;have:=t7 i V;rw [z] at this;cases g with| zero=>exact this.elim| succ g =>obtain ⟨_,a8,a9,_⟩:=this;rw [a8,a9];exact O
   have G:∀ i,i<bs.length->∀ o,bs[i]?=some o->((L (s+((QbF 1 bs).getD i (0,0)).1)).t,(L (s+((QbF 1 bs).getD i (0,0)).1)).k)=Qau o:=λi V o F=>by obtain ⟨a,z,N,O⟩:=Qgn hm hB F;rw [z];exact O
   have S:(Jb (Qc R) L (Qc R id).kids s (QbF 1 bs)).getD k 0=(y:Int):=by
    unfold Jb J3;rw [Qgb,getD_eq_getElem?_getD,getElem?_map,getElem?_range v,Option.map_some,Option.getD_some,t6];refine Qnb (nb:=bs.length) (λp q r u e=>?_) (λp q r u e=>?_) v A ?_
    ·have:=M p r _ (getElem?_eq_getElem r);have:=M q u _ (getElem?_eq_getElem u);exact hB0.inj (getElem?_eq_getElem r) (getElem?_eq_getElem u) (by simp_all)
    ·have:=G p r _ (getElem?_eq_getElem r);have:=G q u _ (getElem?_eq_getElem u);exact hB.inj (getElem?_eq_getElem r) (getElem?_eq_getElem u) (by simp_all)
    rw [G k v b hb,M y A K E,Y]
   obtain ⟨W,X,P⟩:=hk k v (by rw [S];omega);rw [S,Int.toNat_natCast] at W;have T:(Qc R id).kids.getD y 0=c:=QlN _ (by rw [getElem?_eq_getElem a1,a7]);have D:(Qc R' id).kids.getD k 0=c:=W.trans T;obtain ⟨aa,a4,a5,_⟩:=Qgn hm0 hB0 E;obtain ⟨a,z,N,_⟩:=Qgn hm hB hb;have H:=t7 y A;have n:=u7 k v;rw [T,a4] at H;rw [D,z] at n;rw [D,z] at P;rw [D] at X;simp only [Nat.add_sub_cancel_left] at H n P;obtain ⟨ab,ac,ad⟩:=QjJ f g h c (B+aa) (s+a) K b a0 a5 N H n P (d+1) j e I;exact ⟨.step X ab,ac,ad⟩
structure Qan (C C':Nat->Pc):Prop where
 on:∀ i,(C i).on=true->(C' i).on=true/\(C' i).par=(C i).par
 ns:∀ i x,(C i).on=true->x ∈ (C i).ns->x ∈ (C' i).ns
theorem Qan.refl (C:Nat->Pc):Qan C C:=⟨λ_ h=>⟨h,rfl⟩,λ_ _ _ h=>h⟩
theorem Qan.trans {C D b:Nat->Pc} (h:Qan C D) (k:Qan D b):Qan C b := ⟨λi a=>⟨(k.on i (h.on i a).1).1,(k.on i (h.on i a).1).2.trans (h.on i a).2⟩,λi x a c=>k.ns i x (h.on i a).1 (h.ns i x a c)⟩
theorem Qan.kid {C b:Nat->Pc} (h:Qan C b) {p j:Nat} (a:Q9 C p j=true):Q9 b p j=true:=by unfold Q9 at a ⊢;rw [Bool.and_eq_true] at a ⊢;obtain ⟨c,d⟩:=h.on j a.1;exact ⟨c,by rw [d];exact a.2⟩
theorem QeF {C:Nat->Pc} {k:Nat} {x:Pc} (h:(C k).on=true->x.on=true/\x.par=(C k).par/\∀ n,n ∈ (C k).ns->n ∈ x.ns):Qan C (Zu C k x):=by
 refine ⟨λi a=>?_,λi n a b=>?_⟩
 ·by_cases e:i=k
  ·subst e;rw [Qb8];exact ⟨(h a).1,(h a).2.1⟩
  rw [QaI _ _ e];exact ⟨a,rfl⟩
 by_cases e:i=k
 ·subst e;rw [Qb8];exact (h a).2.2 n b
 rw [QaI _ _ e];exact b
theorem Qlb (a:Int) {n:Nat} (b:n≠0):(Int.tmod a n).toNat<n:=by have c:Int.tmod a n<n:=Int.tmod_lt_of_pos a (show (0:Int)<(n:Int) by omega);omega
theorem QnP (C:Nat->Pc) (a:Ac) (g:Int) (b:a.kd≠2/\a.kd≠6):Qan C (QcG C a g):=by
 unfold QcG;simp only;split
 ·split
  ·rename_i _ h;simp only [Bool.and_eq_true,Bool.not_eq_true'] at h;exact QeF λe=>by rw [h.1] at e;cases e
  exact .refl C
 split
 ·rename_i _ hon;split
  ·omega
  split
  ·exact QeF λe=>⟨e,rfl,λ_ h=>h⟩
  split
  ·exact QeF λe=>⟨e,rfl,λ_ h=>h⟩
  split
  ·split
   ·exact QeF λe=>⟨e,rfl,λ_ h=>mem_append_left _ h⟩
   exact .refl C
  split
  ·omega
  split
  ·exact .refl C
  rename_i hl;exact QeF λe=>⟨e,rfl,λn h=>(QkN _ (Qlb _ hl) (Qlb _ hl) n).2 h⟩
 exact .refl C
theorem QiZ:∀ (b:List Qm) (C:Nat->Pc),(∀ x,x ∈ b->x.a.kd≠2/\x.a.kd≠6)->Qan C (Qb6 C b)| [],C,_=>.refl C| x::b,C,h=>(QnP C x.a x.g (h x (mem_cons_self ..))).trans (QiZ b _ λd c=>h d (mem_cons_of_mem _ c))
def Qbr (C:Nat->Pc) (ns:List Int) (f k:Nat) (d:Int):List (List Pn):=ns.map (Z4 d)++((List.range 21).filter (Q9 C k)).map λj=>ZC C f j d
theorem Qh8 (C:Nat->Pc) (ns:List Int) (f k:Nat) (d:Int):(Qbr C ns f k d).flatten=ns.flatMap (Z4 d)++Z2 C f k d:=by unfold Qbr;rw [List.flatten_append,QgH,List.flatMap_def,List.flatMap_def]
theorem Qi1 (C:Nat->Pc) {f k:Nat} {d:Int} (c:0<f):∃ r,ZC C f k d=QbC C k d::r/\∀ z,z ∈ r->d<z.d:=by obtain ⟨f,rfl⟩:∃ a,f=a+1:=⟨f-1,by omega⟩;exact ⟨_,QdG C f k d,λz b=>Qi6 C f k d z b⟩
theorem QhL {C:Nat->Pc} {p j:Nat} (h:Q9 C p j=true):(C j).on=true/\(C j).par=(p:Int):=by unfold Q9 at h;rw [Bool.and_eq_true] at h;exact ⟨h.1,by simpa using h.2⟩
theorem Qf2 (C:Nat->Pc) (ns:List Int) (f k:Nat) (d:Int) (i:ns.Nodup) (l:∀ j,Q9 C k j=true->0<f):Blk d (Qbr C ns f k (d+1)):=by
 refine ⟨λb hb=>?_,?_⟩
 ·rcases mem_append.1 hb with hb|hb
  ·obtain ⟨n,_,rfl⟩:=mem_map.1 hb;exact ⟨_,_,rfl,rfl,λz m=>by
    have:z=⟨d+1+1,⟨#[]⟩,0,QZ n,[]⟩:=by simpa using m
    rw [this];show d+1<d+1+1;omega⟩
  obtain ⟨j,c,rfl⟩:=mem_map.1 hb;obtain ⟨r,e,o⟩:=Qi1 C (k:=j) (d:=d+1) (l j (mem_filter.1 c).2);exact ⟨_,r,e,rfl,o⟩
 have e:(Qbr C ns f k (d+1)).map Qau=ns.map (λn=>((⟨#[105]⟩:ByteArray),100+n))++((List.range 21).filter (Q9 C k)).map (λj:Nat=>((⟨#[99]⟩:ByteArray),(j:Int))):=by
  unfold Qbr;rw [map_append,map_map,map_map];congr 1
  refine map_congr_left λj c=>?_;obtain ⟨r,e,_⟩:=Qi1 C (k:=j) (d:=d+1) (l j (mem_filter.1 c).2);show Qau (ZC C f j (d+1))=_;rw [e];rfl
 rw [e,nodup_append];refine ⟨?_,?_,λa p b hb=>?_⟩
 ·unfold List.Nodup at i ⊢;rw [pairwise_map];exact i.imp λh e=>h (by have:=(Prod.mk.inj e).2;omega)
 ·have g:=Qhj C k;unfold List.Nodup at g ⊢;rw [pairwise_map] at g ⊢;exact g.imp λh e=>h (Prod.mk.inj e).2
 obtain ⟨n,_,rfl⟩:=mem_map.1 p;obtain ⟨j,_,rfl⟩:=mem_map.1 hb;intro e;have:=(Prod.mk.inj e).1;exact absurd this (by intro h;have:=congrArg (λb:ByteArray=>b.data.toList) h;simp at this)
theorem QnF (d n:Int):Sup 2 (Z4 d n) (Z4 d n):=by have hb:Blk d [[(⟨d+1,⟨#[]⟩,0,QZ n,[]⟩:Pn)]]:=⟨λb hb=>by rw [mem_singleton.1 hb];exact ⟨_,[],rfl,rfl,(λz f=>by cases f)⟩,by simp⟩;have c:∀ e:Int,Blk e []:=λe=>⟨(λb hb=>by cases hb),by simp⟩;refine ⟨_,_,[[⟨d+1,⟨#[]⟩,0,QZ n,[]⟩]],[[⟨d+1,⟨#[]⟩,0,QZ n,[]⟩]],rfl,rfl,rfl,rfl,rfl,hb,hb,λg a=>⟨g,a,rfl,?_⟩⟩;rw [mem_singleton.1 a];exact ⟨_,_,[],[],rfl,rfl,rfl,rfl,rfl,c _,c _,(λb hb=>by cases hb)⟩
theorem QjF {C a:Nat->Pc} (r:Qan C a) {ns h:List Int} (o:∀ x,x ∈ ns->x ∈ h) {f k F:Nat} {d:Int} (s:2<=F) (m:∀ j,Q9 C k j=true->Sup F (ZC C f j d) (ZC a f j d)):∀ c,c ∈ Qbr C ns f k d->∃ b,b ∈ Qbr a h f k d/\Qau b=Qau c/\Sup F c b:=λc p=>by
 rcases mem_append.1 p with hb|hb
 ·obtain ⟨n,t,rfl⟩:=mem_map.1 hb;exact ⟨Z4 d n,mem_append_left _ (List.mem_map_of_mem (o n t)),rfl,(QnF d n).more s⟩
 obtain ⟨j,u,rfl⟩:=mem_map.1 hb;obtain ⟨q,i⟩:=mem_filter.1 u;have g:=m j i;refine ⟨ZC a f j d,mem_append_right _ (List.mem_map_of_mem (mem_filter.2 ⟨q,r.kid i⟩)),?_,g⟩;cases F with| zero=>exact g.elim| succ F =>obtain ⟨l,x,B,D,v,y,_,z,A,_⟩:=g;rw [v,y];show (x.tag,x.key)=(l.tag,l.key);rw [z,A]
theorem Qgm {C:Nat->Pc} {a:Nat->Nat} (h:Deep C a) (f:(C 0).on=false) {k j:Nat} (b:(C k).on=true) (g:Q9 C k j=true):a j=a k+1/\a j<5:=by
 obtain ⟨c,d⟩:=QhL g;refine ⟨?_,h.five j c⟩;have m:k≠0:=λe=>by rw [e,f] at b;cases b
 rcases h.up j c with ⟨e,_⟩|⟨p,n,o,i,q,l⟩
 ·rw [d] at e;omega
 rw [d] at i;have:p=k:=by omega
 rw [<- this];exact l
theorem QjO {t p:Int} {C a:Nat->Pc} (h:QY t C) (g:QY p a) (c:Qan C a) {o m:Nat->Nat} (i:Deep C o) (l:Deep a m):∀ (f k:Nat) (d:Int),(C k).on=true->5<=o k+f->5<=m k+f->Sup (f+2) (ZC C f k d) (ZC a f k d)
 | 0,k,d,hk,h1,_=>by have:=i.five k hk;omega
 | f+1,k,d,hk,h1,h2=>by
  have n:=(c.on k hk).1;have q:=Qf2 C (C k).ns f k d (h.nodup k) λj b=>by have:=Qgm i h.zero hk b;omega
  have r:=Qf2 a (a k).ns f k d (g.nodup k) λj b=>by have:=Qgm l g.zero n b;omega
  refine ⟨QbC C k d,QbC a k d,Qbr C (C k).ns f k (d+1),Qbr a (a k).ns f k (d+1),by rw [Qh8,QdG],by rw [Qh8,QdG],rfl,rfl,rfl,q,r,QjF c (λx s=>c.ns k x hk s) (by omega) λj b=>?_⟩;have u:=Qgm i h.zero hk b;have v:=Qgm l g.zero n (c.kid b);exact QjO h g c i l f j (d+1) (QhL b).1 (by omega) (by omega)
theorem Qpt {m i:Int} {C a:Nat->Pc} (f:QY m C) (d:QY i a) (b:Qan C a) (v c:Int):Sup 8 (QJ C v) (QJ a c):=by
 obtain ⟨p,k⟩:=f.deep;obtain ⟨n,h⟩:=d.deep;have e:∀ D:Nat->Pc,∀ u,QJ D u=Qcu u::(Qbr D [] 5 0 1).flatten:=λD u=>by rw [Qh8];rfl
 refine ⟨Qcu v,Qcu c,Qbr C [] 5 0 1,Qbr a [] 5 0 1,e C v,e a c,rfl,rfl,rfl,?_,?_,QjF (F:=7) b (λx l=>by cases l) (by decide) λj g=>?_⟩
 ·exact Qf2 C [] 5 0 0 nodup_nil λ_ _=>by omega
 ·exact Qf2 a [] 5 0 0 nodup_nil λ_ _=>by omega
 have o:=b.kid g;refine QjO f d b k h 5 j 1 (QhL g).1 (by omega) (by omega)
theorem QlP {L:Nat->Qd} {P:List Pn} (h:QcR L P):QdA L 0 P:=λi g a=>by obtain ⟨b,e⟩:=List.getElem?_eq_some_iff.1 a;obtain ⟨c,d,f,_⟩:=h i b;rw [Nat.zero_add,c,d,f,e];exact ⟨rfl,rfl,rfl⟩
theorem Qox {R:List RN} {last:Int} {C a:Nat->Pc} {v b:Nat} {f L:Nat->Qd} {R':List RN} {c:Int} {m g:Int} (h:Qbq R last C v f) (i:QY m C) (d:QY g a) (k:Qan C a) (n:Qgc R last a b L R' c) {j e:Int} (l:Dep (Qc R) 1 0 j e):Dep (Qc R') 1 0 j e/\(Qc R' j).tag=(Qc R j).tag/\(Qc R' j).key=(Qc R j).key := QjJ 8 (QJ C v).length (QJ a b).length 1 0 0 (QJ C v) (QJ a b) (Qpt i d k v b) (QlP h.mat) (QlP n.is.mat) h.tree.tree n.is.tree.tree n.keep 0 j e l
def Ac.stays (a:Ac):Prop:=a.kd≠2/\a.kd≠6
structure Qc3 (S:Us):Prop where
 acts:∀ (i:Nat) (t:Tk),S.T[i]?=some t->∀ a:Ac,a ∈ t.acts->a.stays
 half:∀ (i:Nat) (t:Tk) (x:Qm),S.T[i]?=some t->t.half=some x->x.a.stays
 lk:∀ x:Qm,x ∈ S.lk->x.a.stays
 bt:∀ x:Qm,x ∈ S.bt->x.a.stays
theorem Qc3.set {S:Us} (h:Qc3 S) {S':Us} {i:Nat} {t c:Tk} (d:S.T[i]?=some t) (e:S'.T=S.T.set i c) (g:∀ a,a ∈ c.acts->a.stays) (k:∀ x,c.half=some x->x.a.stays) (l:∀ x,x ∈ S'.lk->x.a.stays) (m:∀ x,x ∈ S'.bt->x.a.stays):Qc3 S':=by
 refine ⟨λj s b=>?_,λj s x b f=>?_,l,m⟩
 ·rw [e] at b;rcases Qal d b with ⟨rfl,rfl⟩|⟨_,b⟩
  ·exact g
  exact h.acts j s b
 rw [e] at b;rcases Qal d b with ⟨rfl,rfl⟩|⟨_,b⟩
 ·exact k x f
 exact h.half j s x b f
theorem Qc3.step {S S':Us} {t x:Int} (h:Qc3 S) (s:J1 S t x S'):Qc3 S':=by
 cases s with
 | took f D lv bv j d =>
  refine ⟨h.acts,h.half,λz c=>h.lk z (by rw [j];exact mem_cons_of_mem _ c),λz c=>?_⟩;rcases mem_append.1 c with c|c
  ·exact h.bt z c
  rw [mem_singleton.1 c];exact h.lk f (by rw [j];exact mem_cons_self ..)
 | com y lv l hb o =>obtain ⟨A,B,np,C,L,rfl,_⟩:=o.ex;exact ⟨h.acts,h.half,h.lk,(λz c=>by cases c)⟩
 | wait lv l hb=>exact ⟨h.acts,h.half,h.lk,h.bt⟩| done=>exact h| hold=>exact h| tell i k a ao v d m q=>exact h.set d rfl (λb hb=>h.acts i k d b (mem_of_mem_tail hb)) (λf g=>h.half i k f d g) h.lk h.bt| send1 i k a hb d n m q=>exact h.set d rfl (h.acts i k d) (λf g=>by rw [<- Option.some.inj g];exact h.acts i k d a (mem_of_getElem? m)) h.lk h.bt
 | send2 i k f p ao v d n l r u =>
  refine h.set d rfl (λb hb=>h.acts i k d b (mem_of_mem_tail hb)) (λz c=>by cases c) (λz c=>?_) h.bt;rcases mem_append.1 c with c|c
  ·rcases mem_append.1 c with c|c
   ·exact h.lk z (mem_of_mem_take c)
   rw [mem_singleton.1 c];exact h.half i k f d n
  exact h.lk z (mem_of_mem_drop c)
def Qgh (S S':Us):Prop:=∀ j e,Dep (Qc S.D.R) 1 0 j e->Dep (Qc S'.D.R) 1 0 j e/\(Qc S'.D.R j).tag=(Qc S.D.R j).tag/\(Qc S'.D.R j).key=(Qc S.D.R j).key
theorem Qs1 {S S':Us} {t x:Int} (h:Zt S) (n:Qc3 S) (s:J1 S t x S'):Qgh S S':=by
 have f:=h.step s;have a:S'.D=S.D->Qgh S S':=λe j d b=>by rw [e];exact ⟨b,rfl,rfl⟩
 cases s with
 | took=>exact a rfl
 | com o lv p hb g =>
  obtain ⟨i,q,np,r,L,rfl,e,k,_⟩:=g.ex;obtain ⟨u,c⟩:=h.seen;intro j d b;have l:Qan (Qh S.C) (Qh i):=by rw [e];exact QiZ S.bt _ λx m=>n.bt x m
  exact Qox c h.pok f.pok l k b
 | wait=>exact a rfl| done=>exact a rfl| hold=>exact a rfl| tell=>exact a rfl| send1=>exact a rfl| send2=>exact a rfl
theorem Qmo {R:List RN} (c:Qp R):∀ (f a:Nat) (d:Int),ZP R f a->∀ p e,(p,e) ∈ QF R f a d->Dep (Qc R) (Qj R a) d (Qj R p) e
 | 0,_,_,h,_,_,_=>by cases h
 | f+1,a,d,h,p,e,b=>by
  obtain ⟨j,n⟩:=h;have g:Qk R (Qj R a):=by rw [QS j];exact ⟨_,getElem_mem j,rfl⟩
  have o:Qj R a≠0:=by have:=Qbf c g;omega
  have l:(Qy R (Qj R a)).map (Qj R)=(Qc R (Qj R a)).kids:=by rw [Qc0 c g,Qck R o]
  rw [QF,mem_cons,mem_flatMap] at b;rcases b with b|⟨k,i,m⟩
  ·cases b;exact .self _ _
  exact .step (by rw [<- l];exact mem_map.2 ⟨k,i,rfl⟩) (Qmo c f k (d+1) (n k i) p e m)
theorem Qlz {R:List RN} (b:Qp R):∀ (f a:Nat) (d:Int),ZP R f a->∀ j e,Dep (Qc R) (Qj R a) d j e->∃ p,(p,e) ∈ QF R f a d/\Qj R p=j
 | 0,_,_,h,_,_,_=>by cases h
 | f+1,a,d,h,j,e,hd=>by
  obtain ⟨i,n⟩:=h;have c:Qk R (Qj R a):=by rw [QS i];exact ⟨_,getElem_mem i,rfl⟩
  have o:Qj R a≠0:=by have:=Qbf b c;omega
  have m:(Qy R (Qj R a)).map (Qj R)=(Qc R (Qj R a)).kids:=by rw [Qc0 b c,Qck R o]
  rw [QF];cases hd with| self=>exact ⟨a,mem_cons_self ..,rfl⟩| step l q =>rw [<- m] at l;obtain ⟨k,g,rfl⟩:=mem_map.1 l;obtain ⟨p,r,s⟩:=Qlz b f k (d+1) (n k g) j e q;exact ⟨p,mem_cons_of_mem _ (mem_flatMap.2 ⟨k,g,r⟩),s⟩
structure Qec (R:List RN) (I:List Int) (N:List TN):Prop where
 len:I.length=N.length
 nodup:I.Nodup
 dep:∀ (k:Nat) i n,I[k]?=some i->N[k]?=some n->Dep (Qc R) 1 0 i n.d/\n.tag=(Qc R i).tag/\n.key=(Qc R i).key
 has:∀ i e,Dep (Qc R) 1 0 i e->∃ (k:Nat) (n:TN),I[k]?=some i/\N[k]?=some n/\n.d=e
theorem Qtt {R:List RN} {last:Int} (h:QE R last) {r:Nat} (q:r<R.length) (u:R[r].id=1) {c:List TN} (s:JU R (QF R R.length r 0) c):Qec R (Qv R R.length r) c:=by
 obtain ⟨x,_,_,_,F⟩:=Qfx h q u;obtain ⟨rk,G⟩:=h.up;have y:=QaA G q;have f:=h.ids;have z:Qj R r=1:=by rw [QS q,u]
 have H:=QfN R R.length r 0;have v:∀ (k:Nat) p e,(QF R R.length r 0)[k]?=some (p,e)->∃ n,(Qv R R.length r)[k]?=some (Qj R p)/\c[k]?=some n/\n.d=e/\n.tag=(Qc R (Qj R p)).tag/\n.key=(Qc R (Qj R p)).key:=λk p e g=>by
  obtain ⟨j,a⟩:=List.getElem?_eq_some_iff.1 g;have l:k<c.length:=by rw [s.1];exact j
  obtain ⟨b,A,B,C,_⟩:=s.2 k j l;rw [a] at A;simp only [a] at b B C;refine ⟨c[k],by rw [<- H,getElem?_map,g];rfl,getElem?_eq_getElem l,A,?_,?_⟩
  ·rw [QS b,Qce f b];exact B
  rw [QS b,Qce f b];exact C
 refine ⟨by rw [x,s.1],F,λk i n D l=>?_,λi e E=>?_⟩
 ·have j:k<(QF R R.length r 0).length:=by rw [<- x];exact (List.getElem?_eq_some_iff.1 D).1
  obtain ⟨⟨p,e⟩,a⟩:∃ w,(QF R R.length r 0)[k]?=some w:=⟨_,getElem?_eq_getElem j⟩;obtain ⟨n',m,o,t,I,J⟩:=v k p e a;rw [D] at m;rw [l] at o;cases m;cases o;have:=Qmo f R.length r 0 y p e (mem_of_getElem? a);rw [z] at this;exact ⟨by rw [t];exact this,I,J⟩
 rw [<- z] at E;obtain ⟨p,K,L⟩:=Qlz f R.length r 0 y i e E;obtain ⟨k,g,M⟩:=getElem_of_mem K;obtain ⟨n,m,o,t,_⟩:=v k p e (by rw [getElem?_eq_getElem g,M]);exact ⟨k,n,by rw [m,L],o,t⟩
theorem Qpq {l:List Int} (h:l.Nodup) {i j:Nat} {x:Int} (g:l[i]?=some x) (k:l[j]?=some x):i=j:=by
 obtain ⟨a,b⟩:=List.getElem?_eq_some_iff.1 g;obtain ⟨c,d⟩:=List.getElem?_eq_some_iff.1 k;have f:=pairwise_iff_getElem.1 h;rcases Nat.lt_trichotomy i j with q|q|q
 ·exact absurd (b.trans d.symm) (f i j a c q)
 ·exact q
 exact absurd (d.trans b.symm) (f j i c a q)
theorem Qec.next {S S':Us} {m a:List Int} {o f:List TN} (h:Qec S.D.R m o) (g:Qec S'.D.R a f) (l:Qgh S S'):o.length<=f.length/\∀ (k:Nat) i n,m[k]?=some i->o[k]?=some n->∃ (j:Nat) (n':TN),a[j]?=some i/\f[j]?=some n'/\n'.tag=n.tag/\n'.key=n.key/\n'.d=n.d/\∀ b:Nat,b<j->a[b]?≠some i:=by
 have key:∀ (k:Nat) i n,m[k]?=some i->o[k]?=some n->∃ (j:Nat) (n':TN),a[j]?=some i/\f[j]?=some n'/\n'.tag=n.tag/\n'.key=n.key/\n'.d=n.d/\∀ b:Nat,b<j->a[b]?≠some i:=λk i n p r=>by obtain ⟨s,t,u⟩:=h.dep k i n p r;obtain ⟨v,x,y⟩:=l i n.d s;obtain ⟨j,n',c,q,z⟩:=g.has i n.d v;obtain ⟨_,A,B⟩:=g.dep j i n' c q;exact ⟨j,n',c,q,by rw [A,x,t],by rw [B,y,u],z,λb C e=>by have:=Qpq g.nodup e c;omega⟩
 refine ⟨?_,key⟩;rw [<- h.len,<- g.len];refine QfL m a h.nodup λi p=>?_;obtain ⟨k,l,e⟩:=getElem_of_mem p;obtain ⟨j,_,c,_⟩:=key k i _ (by rw [getElem?_eq_getElem l,e]) (getElem?_eq_getElem (by rw [<- h.len];exact l));exact mem_of_getElem? c
structure UiB (w0:World) (B db u n:Nat) (wr:World) (κ:Qu) (S:Us):Prop where
 c0:wr.cell? ⟨db,0,none⟩=some (.pointer (some ⟨u,0,none⟩))
 ui:QA κ wr u S
 ok:Zt S
 nd:Qc3 S
 non:κ db=none
 lt:B<=db/\db<wr.heap.size
 arg:∀ b,b<B->κ b=none
 keep:Below B w0 wr
 num:S.T.length=n
section
variable {w0 : World} {B db u n : Nat} {wr w' : World} {κ κ' : Qu} {S S' : Us}
theorem UiB.low (h:UiB w0 B db u n wr κ S) {b:Nat} (hb:wr.heap.size<=b):κ b=none:=by cases e:κ b with| none=>rfl| some r=>have:=h.ui.cs.low b (by rw [e];rfl);omega
theorem UiB.below (h:UiB w0 B db u n wr κ S) (hb:Below wr.heap.size wr w'):UiB w0 B db u n w' κ S:=by have a:=h.lt;have:=h.ok.n4;exact ⟨(hb.cell (p:=⟨db,0,none⟩) a.2).trans h.c0,h.ui.below (by omega) hb,h.ok,h.nd,h.non,⟨a.1,Nat.lt_of_lt_of_le a.2 hb.size⟩,h.arg,h.keep.trans (hb.mono (by omega)),h.num⟩
theorem UiB.step (h:UiB w0 B db u n wr κ S) (t:Nat) (k:t<=n) : Calls Tryz.prog 9 #[.pointer (some ⟨db,0,none⟩),.int .i64 t] wr λe w'=>∃ x,e=.returned (.int .i64 x)/\∃ c S',QB κ c wr w'/\UiB w0 B db u n w' c S'/\Qgh S S':=by
 have f:=h.num;refine Qh7 db u t wr _ h.c0 (Qa ((Qiy h.ui h.ok t ⟨by omega,by omega⟩).mono ?_));rintro e w' ⟨x,c,S',rfl,a,g,s⟩;have d:=h.lt;have i:S'.T.length=S.T.length:=by
  cases s with
  | com l lv m hb j=>obtain ⟨o,p,np,q,L,rfl,_⟩:=j.ex;rfl
  | tell=>exact length_set ..| send1=>exact length_set ..| send2=>exact length_set ..| _=>rfl
 refine ⟨x,rfl,c,S',a,⟨(World.cell?_of_block (a.far.block db d.2 (by rw [h.non];simp))).trans h.c0,g,h.ok.step s,h.nd.step s,(a.old db d.2).trans h.non,⟨d.1,Nat.lt_of_lt_of_le d.2 a.far.size⟩,λb hb=>(a.old b (by omega)).trans (h.arg b hb),h.keep.trans ⟨a.far.os,a.far.tape,a.far.output,a.far.size,λb hb=>a.far.block b (by omega) (by rw [h.arg b hb];simp)⟩,by rw [i];exact f⟩,Qs1 h.ok h.nd s⟩
theorem QsH (q:Nat) (w:World) (b:Value->World->Prop) (d:w.cell? ⟨db,0,none⟩=some (.pointer (some ⟨u,0,none⟩))) (f:w.cell? ⟨u,152,none⟩=some (.pointer (some ⟨q,0,none⟩))) (c:Hid (Calls Tryz.prog 37 #[.pointer (some ⟨q,0,none⟩)] w λe w'=>∃ v,e=.returned v/\b v w')) : Calls Tryz.prog 12 #[.pointer (some ⟨db,0,none⟩)] w λe w'=>∃ v,e=.returned v/\b v w':=by have g:Hid (Calls Tryz.prog 27 #[.pointer (some ⟨u,0,none⟩)] w λe w'=>∃ v,e=.returned v/\b v w'):=Qa (by clear d;go_enter Tryz.func27,Tryz.ntmps27;go_wp2_with (first|(go_at_call 37;refine c.out.mono ?_;rintro e w2 ⟨v,rfl,a⟩));go_ret;exact ⟨v,rfl,a⟩);clear f c;go_enter Tryz.func12,Tryz.ntmps12;go_wp2_with (first|(go_at_call 27;refine g.out.mono ?_;rintro e w2 ⟨v,rfl,a⟩));go_ret;exact ⟨v,rfl,a⟩
theorem QpB (q:Nat) (w:World) (b:Value->World->Prop) (d:w.cell? ⟨db,0,none⟩=some (.pointer (some ⟨u,0,none⟩))) (f:w.cell? ⟨u,152,none⟩=some (.pointer (some ⟨q,0,none⟩))) (c:Hid (Calls Tryz.prog 38 #[.pointer (some ⟨q,0,none⟩)] w λe w'=>∃ v,e=.returned v/\b v w')) : Calls Tryz.prog 13 #[.pointer (some ⟨db,0,none⟩)] w λe w'=>∃ v,e=.returned v/\b v w':=by have g:Hid (Calls Tryz.prog 28 #[.pointer (some ⟨u,0,none⟩)] w λe w'=>∃ v,e=.returned v/\b v w'):=Qa (by clear d;go_enter Tryz.func28,Tryz.ntmps28;go_wp2_with (first|(go_at_call 38;refine c.out.mono ?_;rintro e w2 ⟨v,rfl,a⟩));go_ret;exact ⟨v,rfl,a⟩);clear f c;go_enter Tryz.func13,Tryz.ntmps13;go_wp2_with (first|(go_at_call 28;refine g.out.mono ?_;rintro e w2 ⟨v,rfl,a⟩));go_ret;exact ⟨v,rfl,a⟩
def Qdx (a:Qu) (w:World) (b:Option Addr) (c:List TN):Prop:=∀ (k:Nat) x,c[k]?=some x->∃ g,b=some ⟨g,0,none⟩/\a g=none/\g<w.heap.size/\w.cell? ⟨g,k*5,none⟩=some (.int .i64 x.d)/\w.cell? ⟨g,k*5+1,none⟩=some (.string x.tag)/\w.cell? ⟨g,k*5+2,none⟩=some (.int .i64 x.key)
def Qde (a:Qu) (w:World) (b:Option Addr) (c:List Int):Prop:=∀ (k:Nat) x,c[k]?=some x->∃ g,b=some ⟨g,0,none⟩/\a g=none/\g<w.heap.size/\w.cell? ⟨g,k,none⟩=some (.int .i64 x)
theorem Qdx.out {c:Option Addr} {d:List TN} (h:Qdx κ wr c d) (q:QB κ κ' wr w'):Qdx κ' w' c d:=λk x f=>by obtain ⟨g,i,b,a,j,l,m⟩:=h k x f;have hb:=q.far.block g a (by rw [b];simp);exact ⟨g,i,(q.old g a).trans b,Nat.lt_of_lt_of_le a q.far.size,(World.cell?_of_block hb).trans j,(World.cell?_of_block hb).trans l,(World.cell?_of_block hb).trans m⟩
theorem Qde.out {c:Option Addr} {d:List Int} (h:Qde κ wr c d) (q:QB κ κ' wr w'):Qde κ' w' c d:=λk x f=>by obtain ⟨g,i,b,a,j⟩:=h k x f;have hb:=q.far.block g a (by rw [b];simp);exact ⟨g,i,(q.old g a).trans b,Nat.lt_of_lt_of_le a q.far.size,(World.cell?_of_block hb).trans j⟩
def Qfm (R:List RN) (last:Int) (r:Nat):Prop:=∃ a:r<R.length,R[r].id=1/\QE R last/\R.length<=341
theorem Qfm.view {R:List RN} {last:Int} {r:Nat} (h:Qfm R last r) {a:List TN} (c:JU R (QF R R.length r 0) a):Qec R (Qv R R.length r) a/\a.length<=1000:=by obtain ⟨d,f,b,g⟩:=h;refine ⟨Qtt b d f c,?_⟩;have:=Qko b d 0;have:=c.1;omega
theorem UiB.doc (h:UiB w0 B db u n wr κ S):∃ r,Qfm S.D.R S.D.last r:=by obtain ⟨L,a⟩:=h.ok.seen;obtain ⟨r,b,e,_⟩:=Qiw a.tree.ok;exact ⟨r,b,e,a.tree.ok,by rw [(a.tree.tells b e).2.2.2];exact Qd9 h.ok.pok _⟩
theorem UiB.tree (h:UiB w0 B db u n wr κ S) {r:Nat} (p:Qfm S.D.R S.D.last r) : Calls Tryz.prog 12 #[.pointer (some ⟨db,0,none⟩)] wr λe w'=>∃ d c a,e=.returned (.slice d a.length c)/\Qdx κ w' d a/\JU S.D.R (QF S.D.R S.D.R.length r 0) a/\Below wr.heap.size wr w':=by
 obtain ⟨s,m,o,_⟩:=p;refine (QsH S.D.q wr (λv w'=>∃ a,ZB wr.heap.size w' v a/\JU S.D.R (QF S.D.R S.D.R.length r 0) a/\Below wr.heap.size wr w') h.c0 h.ui.c5 (Qa ((Qlk S.D.ρ S.D.nb S.D.mb wr S.D.q S.D.R S.D.last h.ui.dc.dom o r s m).mono λ_ _ ⟨v,a,b,j,l,t⟩=>⟨v,b,a,j,l,t⟩))).mono ?_;rintro e w' ⟨v,rfl,a,b,j,l⟩;obtain ⟨d,c,rfl⟩:=Qz b.row;refine ⟨d,c,a,rfl,λk x y=>?_,j,l⟩;obtain ⟨z,A⟩:=List.getElem?_eq_some_iff.1 y;rcases b.row.2 with ⟨_,e⟩|⟨g,cap,G,e,C,E,_⟩
 ·omega
 obtain ⟨rfl,_,_⟩:=Value.slice.inj e;have f:∀ i,i<5->w'.cell? ⟨g,k*5+i,none⟩=x.cells[i]?:=λi F=>by rw [b.row.cellAt (k*5+i) (by omega),Qle a k i z F,A]
 exact ⟨g,rfl,h.low C,QN E,f 0 (by omega),f 1 (by omega),f 2 (by omega)⟩
theorem UiB.ids (h:UiB w0 B db u n wr κ S) {r:Nat} (j:Qfm S.D.R S.D.last r) : Calls Tryz.prog 13 #[.pointer (some ⟨db,0,none⟩)] wr λe w'=>∃ a c,e=.returned (.slice a (Qv S.D.R S.D.R.length r).length c)/\Qde κ w' a (Qv S.D.R S.D.R.length r)/\Below wr.heap.size wr w':=by obtain ⟨l,f,i,_⟩:=j;refine (QpB S.D.q wr (λv w'=>w'.ownsRow wr.heap.size 3 1 v (Qv S.D.R S.D.R.length r).length (Qt (Qv S.D.R S.D.R.length r))/\Below wr.heap.size wr w') h.c0 h.ui.c5 (Qa (Qla S.D.ρ S.D.nb S.D.mb wr S.D.q S.D.R S.D.last h.ui.dc.dom i r l f))).mono ?_;rintro e w' ⟨v,rfl,b,m⟩;obtain ⟨a,c,rfl⟩:=Qz b;refine ⟨a,c,rfl,λk x o=>?_,m⟩;obtain ⟨p,s⟩:=List.getElem?_eq_some_iff.1 o;obtain ⟨g,A,t,d,y,z⟩:=QdD b p;rw [s] at d;exact ⟨g,t,h.low y,z,d⟩
end
theorem QmJ (v:Option Addr) (n c:Nat) (a:List Int) (x:Int) (w:World) (d:n=a.length) (C:n<=1000) (t:∀ (k:Nat) r,a[k]?=some r->∃ g,v=some ⟨g,0,none⟩/\w.cell? ⟨g,k,none⟩=some (.int .i64 r)) (j:Nat) (f:a[j]?=some x) (s:∀ u:Nat,u<j->a[u]?≠some x) : Calls Tryz.prog 14 #[.slice v n c,.int .i64 x] w λe w'=>e=.returned (.int .i64 (j:Nat))/\w'=w:=by
 have z:j<n:=by rw [d];exact (List.getElem?_eq_some_iff.1 f).1
 have h:=Qa t;have l:=Qa f;have o:=Qa s;have p:=Qa d;clear t f s d;go_enter Tryz.func14,Tryz.ntmps14;go_wp2;go_loopw [5] (λi wr=>wr=w/\∃ m:Nat,m<=j/\i=.int .i64 m) (λi _=>n+1-(intOf i).toNat);·exact ⟨rfl,0,Nat.zero_le _,rfl⟩
 case round =>
  obtain ⟨rfl,m,D,rfl⟩:=hrel;have y:m<n:=by omega
  have A:(m:Int)<(n:Int):=by omega
  have b:m<a.length:=by rw [<- p.out];exact y
  obtain ⟨g,rfl,cm⟩:=h.out m _ (getElem?_eq_getElem b);have B:IntKind.i64.wrap ((m:Int)+1)=(m:Int)+1:=by rw [IntKind.wrap_i64];omega
  by_cases e:m=j
  ·have q:a[m]=x:=by have:=l.out;rw [<- e,getElem?_eq_getElem b] at this;exact Option.some.inj this
   rw [q] at cm;subst e;clear h l o p q;go_wp2;go_ret;exact ⟨rfl,rfl⟩
  have q:(a[m]==x)=false:=by have:=o.out m (by omega);rw [getElem?_eq_getElem b] at this;simpa using this
  generalize a[m]=r at *;clear h l o p;go_wp2;go_roundw;·exact ⟨trivial,m+1,by omega,by go_num⟩
  simp [intOf];omega
theorem QpG (S:Nat) (ao a5:Option Addr) (n c a6 a7:Nat) (A:List (List Ac)) (w:World) (C:n=A.length) (ay:S<=w.heap.size) (aq:n<=maxLen) (F:∀ (j:Nat) q,A[j]?=some q->q.length<=maxLen) (L:JI S w ao A) (k m:Nat) (t:List Ac) (u:A[k]?=some t) (H:∀ (j:Nat) q,j<k->A[j]?=some q->∀ a,a ∈ q->a.stays) (D:Ac) (M:t[m]?=some D) (I:¬ D.stays) (G:∀ (j:Nat) a,j<m->t[j]?=some a->a.stays) : Calls Tryz.prog 4 #[.slice ao n c,.slice a5 a6 a7] w λe w'=>e=.returned (.bool true)/\Below w.heap.size w w':=by
 have N:=Qa (Qer w);have a8:=Qa L;have a9:=Qa C;have aa:=Qa H;have U:=Qa G;have ab:=Qa u;have O:=Qa M;have T:=Qa I;have ac:=Qa F;have ar:maxLen=9223372036854775807:=rfl;have au:k<n:=by rw [C];exact (List.getElem?_eq_some_iff.1 u).1
 clear L C H G u M I F;go_enter Tryz.func4,Tryz.ntmps4;go_wp2_with (first|(go_at_call 6;refine N.out.mono ?_;rintro e w1 ⟨rfl,K⟩;have v:=Qa K;clear K N));go_loopw [6] (λi wr=>wr=w1/\∃ j:Nat,j<=k/\i=.int .i64 j) (λi _=>n+1-(intOf i).toNat);·exact ⟨rfl,0,Nat.zero_le _,rfl⟩
 case round =>
  obtain ⟨rfl,j,az,rfl⟩:=hrel;have V:j<n:=by omega
  have av:(j:Int)<(n:Int):=by omega
  have aw:IntKind.i64.wrap ((j:Int)+1)=(j:Int)+1:=by rw [IntKind.wrap_i64];omega
  have W:j<A.length:=by rw [<- a9.out];exact V
  obtain ⟨q,o⟩:∃ q,A[j]?=some q:=⟨_,getElem?_eq_getElem W⟩;have X:=ac.out j q o;obtain ⟨g,p,aA,aB,ad,_,ae,_,J⟩:=(a8.out.keep λb hb=>v.out.block b (by omega)) j q o;have P:=Qa J;obtain ⟨f,x⟩:∃ f,f=q.length:=⟨_,rfl⟩;rw [<- x] at ae X;have y:=Qa x;subst ad;clear J x;by_cases Y:j=k
  ·subst Y;have E:q=t:=Option.some.inj (o.symm.trans ab.out);have ax:m<f:=by rw [y.out,E];exact (List.getElem?_eq_some_iff.1 O.out).1
   clear o;go_wp2;go_loopw [7] (λi w2=>w2=wr/\∃ d:Nat,d<=m/\i=.int .i64 d) (λi _=>f+1-(intOf i).toNat);·exact ⟨rfl,0,Nat.zero_le _,rfl⟩
   case round =>
    obtain ⟨rfl,d,a0,rfl⟩:=hrel;have z:d<f:=by omega
    have a1:(d:Int)<(f:Int):=by omega
    have a2:IntKind.i64.wrap ((d:Int)+1)=(d:Int)+1:=by rw [IntKind.wrap_i64];omega
    obtain ⟨a,l⟩:∃ a,q[d]?=some a:=⟨_,getElem?_eq_getElem (by rw [<- y.out];exact z)⟩;obtain ⟨af,ag,B,_,r⟩:=P.out d a l;have s:=r 0 _ rfl;simp only [Nat.add_zero] at s;subst B;clear r;by_cases e:d=m
    ·have R:a=D:=by have:=O.out;rw [<- E,<- e,l] at this;exact Option.some.inj this
     have a3:a.kd=2 \/ a.kd=6:=by have:=T.out;rw [<- R] at this;unfold Ac.stays at this;omega
     subst e;clear R;rcases a3 with ah|ai
     ·rw [ah] at s;go_wp2;go_ret;exact ⟨rfl,v.out⟩
     rw [ai] at s;go_wp2;go_ret;exact ⟨rfl,v.out⟩
    have h:=U.out d a (by omega) (by rw [<- E];exact l);have aj:(a.kd==2)=false:=by simpa using h.1
    have ak:(a.kd==6)=false:=by simpa using h.2
    generalize a.kd=al at *;clear h l;go_wp2;go_roundw;·exact ⟨trivial,d+1,by omega,by go_num⟩
    simp [intOf];omega
  have h:=aa.out j q (by omega) o;have ap:=Qa h;clear h o;go_wp2;go_loopw [7] (λi w2=>w2=wr/\∃ d:Nat,d<=f/\i=.int .i64 d) (λi _=>f+1-(intOf i).toNat);·exact ⟨rfl,0,Nat.zero_le _,rfl⟩
  case round =>
   obtain ⟨rfl,d,a0,rfl⟩:=hrel;by_cases z:d<f
   ·have a1:(d:Int)<(f:Int):=by omega
    have a2:IntKind.i64.wrap ((d:Int)+1)=(d:Int)+1:=by rw [IntKind.wrap_i64];omega
    obtain ⟨a,l⟩:∃ a,q[d]?=some a:=⟨_,getElem?_eq_getElem (by rw [<- y.out];exact z)⟩;obtain ⟨af,ag,B,_,r⟩:=P.out d a l;have s:=r 0 _ rfl;simp only [Nat.add_zero] at s;have h:=ap.out a (mem_of_getElem? l);have aj:(a.kd==2)=false:=by simpa using h.1
    have ak:(a.kd==6)=false:=by simpa using h.2
    subst B;generalize a.kd=al at *;clear r h l;go_wp2;go_roundw;·exact ⟨trivial,d+1,by omega,by go_num⟩
    simp [intOf];omega
   have a4:d=f:=by omega
   subst a4;go_wp2;go_roundw;·exact ⟨trivial,j+1,by omega,by go_num⟩
   simp [intOf];omega
theorem Qtl (H:Nat) (ao T:Option Addr) (n c U V:Nat) (A:List (List Ac)) (w:World) (B:n=A.length) (ac:H<=w.heap.size) (a4:n<=maxLen) (u:∀ (j:Nat) q,A[j]?=some q->q.length<=maxLen) (C:JI H w ao A) (v:∀ (j:Nat) q,A[j]?=some q->∀ a,a ∈ q->a.stays) (D k:Int) (a5:(D==0)=false) (o:Hid (∀ m,Below w.heap.size w m->Calls Tryz.prog 7 #[.slice ao n c] m λe w'=>e=.returned (.tuple #[.pointer none,.int .i64 D,.int .i64 k])/\Below m.heap.size m w')) : Calls Tryz.prog 4 #[.slice ao n c,.slice T U V] w λe w'=>e=.returned (.bool true)/\Below w.heap.size w w':=by
 have E:=Qa (Qer w);have F:=Qa C;have W:=Qa B;have G:=Qa v;have X:=Qa u;have a6:maxLen=9223372036854775807:=rfl;clear C B v u;go_enter Tryz.func4,Tryz.ntmps4;go_wp2_with (first|(go_at_call 6;refine E.out.mono ?_;rintro e w1 ⟨rfl,z⟩;have h:=Qa z;clear z E));go_loopw [6] (λi wr=>wr=w1/\∃ j:Nat,j<=n/\i=.int .i64 j) (λi _=>n+1-(intOf i).toNat);·exact ⟨rfl,0,Nat.zero_le _,rfl⟩
 case round =>
  obtain ⟨rfl,j,ad,rfl⟩:=hrel;by_cases I:j<n
  ·have a7:(j:Int)<(n:Int):=by omega
   have a8:IntKind.i64.wrap ((j:Int)+1)=(j:Int)+1:=by rw [IntKind.wrap_i64];omega
   have J:j<A.length:=by rw [<- W.out];exact I
   obtain ⟨q,l⟩:∃ q,A[j]?=some q:=⟨_,getElem?_eq_getElem J⟩;have K:=X.out j q l;obtain ⟨g,p,ae,af,Y,_,a0,_,x⟩:=(F.out.keep λb hb=>h.out.block b (by omega)) j q l;have a1:=Qa x;have a2:=Qa (G.out j q l);obtain ⟨f,r⟩:∃ f,f=q.length:=⟨_,rfl⟩;rw [<- r] at a0 K;have L:=Qa r;subst Y;clear x r l o;go_wp2;go_loopw [7] (λi w2=>w2=wr/\∃ d:Nat,d<=f/\i=.int .i64 d) (λi _=>f+1-(intOf i).toNat);·exact ⟨rfl,0,Nat.zero_le _,rfl⟩
   case round =>
    obtain ⟨rfl,d,a9,rfl⟩:=hrel;by_cases M:d<f
    ·have aa:(d:Int)<(f:Int):=by omega
     have ab:IntKind.i64.wrap ((d:Int)+1)=(d:Int)+1:=by rw [IntKind.wrap_i64];omega
     obtain ⟨a,t⟩:∃ a,q[d]?=some a:=⟨_,getElem?_eq_getElem (by rw [<- L.out];exact M)⟩;obtain ⟨ag,ah,N,_,y⟩:=a1.out d a t;have a3:=y 0 _ rfl;simp only [Nat.add_zero] at a3;have s:=a2.out a (mem_of_getElem? t);have ai:(a.kd==2)=false:=by simpa using s.1
     have aj:(a.kd==6)=false:=by simpa using s.2
     subst N;generalize a.kd=ak at *;clear y s t;go_wp2;go_roundw;·exact ⟨trivial,d+1,by omega,by go_num⟩
     simp [intOf];omega
    have O:d=f:=by omega
    subst O;go_wp2;go_roundw;·exact ⟨trivial,j+1,by omega,by go_num⟩
    simp [intOf];omega
  have P:j=n:=by omega
  subst P;have R:=Qa (o.out wr h.out);clear o F G;go_wp2_with (first|(go_at_call 7;refine R.out.mono ?_;rintro e w2 ⟨rfl,S⟩));go_ret;exact ⟨rfl,h.out.trans (S.mono h.out.size)⟩
end Go.Proofs.YtobgcaemnpkbmaaGreatDoor
