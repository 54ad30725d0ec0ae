import Derived.Test.YtobgcaemnpkbmaaGreatDoorC25
namespace Go.Proofs.YtobgcaemnpkbmaaGreatDoor
set_option maxRecDepth 100000
set_option maxHeartbeats 8000000
open Go.RowKit List
def Qac:List (Nat × Nat)->Nat->Nat->Prop
 | [],a,b=>a=b
 | p::l,a,b=>p.1=a/\p.1<p.2/\Qac l p.2 b
theorem Qac.snoc:∀ {l:List (Nat × Nat)} {a b c:Nat},Qac l a b->b<c->Qac (l++[(b,c)]) a c| [],a,b,c,h,hb=>by have e:a=b:=h;subst e;exact ⟨rfl,hb,rfl⟩| p::l,a,b,c,⟨h1,h2,h3⟩,hb=>⟨h1,h2,Qac.snoc h3 hb⟩
theorem Qi5 (D:Nat->Int) (n:Nat):∀ k,Qac (Q5 D n k).1 1 (Q5 D n k).2| 0=>rfl| k+1=>by have ih:=Qi5 D n k;have a:=Qdg D n k;cases h:JS D n (k+2) with| true=>rw [Qcz h];exact ih.snoc (by omega)| false=>rw [Qda h];exact ih
theorem Qem (D:Nat->Int) {n:Nat} (a:1<=n):Qac (Jg D n) 1 n:=by
 have h:=Qi5 D n (n-1);unfold Jg
 have e:(Q5 D n (n-1)).2=n:=by
  match n,a with
  | 1,_=>rfl
  | k+2,_ =>
   have b:JS D (k+2) (k+2)=true:=by unfold JS;simp
   show (Q5 D (k+2) (k+1)).2=k+2
   rw [Qcz b]
 rw [e] at h;exact h
theorem QlQ (D:Nat->Int) (n:Nat) (d:2<=n->D 1=D 0+1):∀ k,k+1<=n->(∀ p,p ∈ (Q5 D n k).1->D p.1=D 0+1/\∀ i,p.1<i->i<p.2->D i≠D 0+1)/\((Q5 D n k).2<n->D (Q5 D n k).2=D 0+1)/\∀ i,(Q5 D n k).2<i->i<=k+1->i<n->D i≠D 0+1
 | 0,hk=>⟨λp b=>by simp [Q5] at b,λh=>d (by simp [Q5] at h;omega),λi a c=>by simp [Q5] at a;omega⟩
 | k+1,hk=>by
  obtain ⟨f,g,j⟩:=QlQ D n d k (by omega);have o:=Qdg D n k;cases h:JS D n (k+2) with
  | true =>
   rw [Qcz h];refine ⟨λp b=>?_,λl=>?_,λi a c=>by simp only at a;omega⟩
   ·rcases mem_append.1 b with b|b
    ·exact f p b
    have e:=mem_singleton.1 b;subst e;refine ⟨g (by omega),λi a c=>j i a (by simp only at c;omega) (by simp only at c;omega)⟩
   unfold JS at h;simp only [Bool.or_eq_true,beq_iff_eq] at h;exact h.resolve_left (by simp only at l;omega)
  | false =>
   rw [Qda h];refine ⟨f,g,λi a c m=>?_⟩;by_cases e:i=k+2
   ·subst e;unfold JS at h;simp only [Bool.or_eq_false_iff,beq_eq_false_iff_ne] at h;exact h.2
   exact j i a (by omega) m
theorem QeM {D:Nat->Int} {n:Nat} (c:1<=n) (a:2<=n->D 1=D 0+1) {p:Nat × Nat} (b:p ∈ Jg D n):D p.1=D 0+1/\∀ i,p.1<i->i<p.2->D i≠D 0+1:=(QlQ D n a (n-1) (by omega)).1 p b
structure Qbk (L:Nat->Qd) (s n:Nat):Prop where
 pos:1<=n
 deep:∀ i,0<i->i<n->(L s).d<(L (s+i)).d
 step:∀ i,i+1<n->(L (s+i+1)).d<=(L (s+i)).d+1
 node:∀ i,i<n->Q8 (L (s+i))=true \/ Zz (L (s+i))=true
 par:∀ i,i+1<n->(L (s+i)).d<(L (s+i+1)).d->Q8 (L (s+i))=true
theorem Qbk.part {L:Nat->Qd} {s n:Nat} (h:Qbk L s n) {a:Nat × Nat} (c:a ∈ QD L s n):Qbk L (s+a.1) (a.2-a.1)/\(1<=a.1/\a.1<a.2/\a.2<=n)/\Q8 (L s)=true:=by
 obtain ⟨m,o,p⟩:=Qcj h.pos c;have k:2<=n->(L (s+1)).d=(L (s+0)).d+1:=λu=>by have b:=h.deep 1 (by omega) (by omega);have f:=h.step 0 (by omega);simp only [Nat.add_zero] at f ⊢;omega
 obtain ⟨q,g⟩:=QeM h.pos k c;rw [Nat.add_zero] at q g;refine ⟨⟨by omega,λi r t=>?_,λi j=>?_,λi j=>?_,λi j l=>?_⟩,⟨m,o,p⟩,?_⟩
 ·have b:=g (a.1+i) (by omega) (by omega);have f:=h.deep (a.1+i) (by omega) (by omega);rw [Nat.add_assoc];omega
 ·have:=h.step (a.1+i) (by omega);rw [show s+(a.1+i)=s+a.1+i by omega] at this;exact this
 ·have:=h.node (a.1+i) (by omega);rw [<- Nat.add_assoc] at this;exact this
 ·have:=h.par (a.1+i) (by omega);rw [show s+(a.1+i)=s+a.1+i by omega] at this;exact this l
 have b:=h.deep 1 (by omega) (by omega);have:=h.par 0 (by omega);rw [Nat.add_zero] at this;exact this b
def Jm (R:List RN) (L:Nat->Qd):Nat->Int->Nat->Nat->Prop
 | 0,_,_,_=>False
 | f+1,id,s,n=>Qk R id/\(Qc R id).tag=(L s).t/\(Qc R id).key=(L s).k/\(Qc R id).text=(L s).x/\(Qc R id).ats=Zn (L s)/\(Qc R id).kids.length=(QD L s n).length/\∀ k,k<(QD L s n).length->Jm R L f ((Qc R id).kids.getD k 0) (s+((QD L s n).getD k (0,0)).1) (((QD L s n).getD k (0,0)).2-((QD L s n).getD k (0,0)).1)
theorem Jm.keep {R R':List RN} {L:Nat->Qd}:∀ {f:Nat} {id:Int} {s n:Nat},Jm R L f id s n->(∀ j,Qw (Qc R) id j->Qk R' j/\Qc R' j=Qc R j)->Jm R' L f id s n| 0,_,_,_,h,_=>h| f+1,id,s,n,⟨h1,h2,h3,h4,h5,h6,h7⟩,hk=>by obtain ⟨b,c⟩:=hk id (.self _);unfold Jm;rw [c];refine ⟨b,h2,h3,h4,h5,h6,λk a=>(h7 k a).keep λj d=>hk j (.step ?_ d)⟩;rw [Xg (by omega)];exact getElem_mem _
theorem Jm.more {R:List RN} {L:Nat->Qd}:∀ {f g:Nat} {id:Int} {s n:Nat},Jm R L f id s n->f<=g->Jm R L g id s n| 0,_,_,_,_,h,_=>h.elim| f+1,0,_,_,_,_,hg=>by omega| f+1,g+1,id,s,n,⟨h1,h2,h3,h4,h5,h6,h7⟩,hg=>⟨h1,h2,h3,h4,h5,h6,λk a=>(h7 k a).more (by omega)⟩
def Qba (R:List RN) (T:Int->NI) (L:Nat->Qd):Nat->Int->List Int->Nat->Nat->Prop
 | 0,_,_,_,_=>True
 | f+1,id,ks,s,n=>∀ k,k<(QD L s n).length->(Jb T L ks s (QD L s n)).getD k 0≠-1->(Qc R id).kids.getD k 0=ks.getD ((Jb T L ks s (QD L s n)).getD k 0).toNat 0/\(Qc R id).kids.getD k 0 ∈ (Qc R id).kids/\Qba R T L f ((Qc R id).kids.getD k 0) (T ((Qc R id).kids.getD k 0)).kids (s+((QD L s n).getD k (0,0)).1) (((QD L s n).getD k (0,0)).2-((QD L s n).getD k (0,0)).1)
theorem Qba.keep {R R':List RN} {T:Int->NI} {L:Nat->Qd}:∀ {f:Nat} {id:Int} {a:List Int} {s n:Nat},Qba R T L f id a s n->(∀ j,Qw (Qc R) id j->Qc R' j=Qc R j)->Qba R' T L f id a s n| 0,_,_,_,_,_,_=>trivial| f+1,id,a,s,n,h,hk=>λk c d=>by obtain ⟨g,b,i⟩:=h k c d;rw [hk id (.self _)];exact ⟨g,b,i.keep λj l=>hk j (.step b l)⟩
structure Qdv (x:NI):Prop where
 rise:Zw x.ats
 text:x.tag.toList.isEmpty=false->x.text=⟨#[]⟩
 ats:x.tag.toList.isEmpty=true->x.ats=[]
theorem QoP {m:Qd} (h:Q8 m=true \/ Zz m=true):QeO m:=⟨QhP h,(Qa0 h).1,λj a=>⟨(QdI ((Qa0 h).2 j a).1).1,Qfo (QdI ((Qa0 h).2 j a).1).2.1⟩⟩
theorem Qeu {m:Qd} (h:Q8 m=true):m.t.toList.isEmpty=false/\m.x=⟨#[]⟩:=by
 unfold Q8 at h;simp only [Bool.and_eq_true] at h;refine ⟨?_,Qei ?_⟩
 ·cases e:m.t.toList.isEmpty with| false=>rfl| true=>rw [QlF e] at h;cases h.1.1.1
 rw [isEmpty_iff.1 h.1.1.2,ByteArray.toList_eq]
theorem QeG {m:Qd} (h:Zz m=true):m.t.toList.isEmpty=true/\m.x.size<=20/\m.an=0:=by unfold Zz at h;simp only [Bool.and_eq_true,decide_eq_true_eq] at h;exact ⟨h.1.1.1,Qfo h.2,h.1.2⟩
theorem QmS {R:List RN} {last:Int} (h:QE R last) (q:ZA R) {c:Int} (n:Qk R c) {x:NI} (f:Qc R c=x) (g:Qdv x) {a:Qd} (r:Q8 a=true \/ Zz a=true) (m:x.tag=a.t) : ∃ R',Zv R last (JG c x a++QaG c x a) R' last/\Qb0 R R' c { x with text:=a.x,ats:=Zn a }:=by
 rcases r with o|s
 ·obtain ⟨i,j⟩:=Qeu o;have b:x.tag.toList.isEmpty=false:=by rw [m];exact i
  have d:x.text=a.x:=by rw [g.text b,j]
  obtain ⟨R',u,v⟩:=QuE h q n f b g.rise (QoP (.inl o));refine ⟨R',?_,?_⟩
  ·rw [Qik (by rw [d];simp),nil_append];exact u
  rw [<- d];exact v
 obtain ⟨i,j,b⟩:=QeG s;have d:x.tag.toList.isEmpty=true:=by rw [m];exact i
 have k:=g.ats d;have y:Zn a=[]:=by unfold Zn;rw [b];rfl
 have z:QaG c x a=[]:=by unfold QaG;rw [k,b];rfl
 rw [z,y,append_nil];cases l:(x.text.toList==a.x.toList) with
 | true =>
  have A:x.text=a.x:=Qei (by simpa using l);refine ⟨R,?_,.refl ?_⟩
  ·rw [Qik l];exact .nil ..
  rw [f,<- A,<- k]
 | false =>
  obtain ⟨B,C,D,E,F,G⟩:=Qre h n (by rw [f];exact d) j;refine ⟨_,?_,C,D,?_,G⟩
  ·rw [QkC l];have p:=Zv.one B;rw [F] at p;exact p
  rw [E,f,<- k]
theorem QlS (A:Nat->ByteArray × Int) (x:LK):∀ n v,J4 A n x=some v->∃ p:Nat,v=(p:Int)/\p<n/\x=⟨(A p).1,(A p).2,Zf A (A p) p⟩
 | 0,v,h=>by cases h
 | n+1,v,h=>by
  rw [J4] at h;unfold Qah at h;split at h
  ·next e =>
   cases h;exact ⟨n,rfl,by omega,e⟩
  obtain ⟨p,a,c,b⟩:=QlS A x n v h;exact ⟨p,a,by omega,b⟩
theorem QkY (A:Nat->ByteArray × Int) (x:ByteArray × Int) (i:Nat):∀ k,Zf A x i<=Zf A x (i+k)| 0=>Nat.le_refl _| k+1=>by have:=QkY A x i k;rw [<- Nat.add_assoc,Zf];omega
theorem Qf5 {A:Nat->ByteArray × Int} {x:ByteArray × Int} {i j:Nat} (h:i<j) (e:A i=x):Zf A x i<Zf A x j:=by have a:=QkY A x (i+1) (j-(i+1));rw [show i+1+(j-(i+1))=j by omega,Zf,if_pos e] at a;omega
theorem Qg7 {A:Nat->ByteArray × Int} {n:Nat} {a:Nat->ByteArray × Int} {j:Nat} {v:Int} (h:Qa8 A n a j=v) (c:v≠-1):∃ p:Nat,v=(p:Int)/\p<n/\a j=A p/\Zf a (a j) j=Zf A (A p) p:=by unfold Qa8 at h;cases e:J4 A n ⟨(a j).1,(a j).2,Zf a (a j) j⟩ with| none=>rw [e] at h;exact absurd h.symm c| some w =>rw [e] at h;obtain ⟨p,d,f,b⟩:=QlS A _ n w e;have g:w=v:=h;rw [LK.mk.injEq] at b;refine ⟨p,by rw [<- g];exact d,f,Prod.ext b.1 b.2.1,?_⟩;have:=b.2.2;omega
theorem QsQ {A:Nat->ByteArray × Int} {n:Nat} {a:Nat->ByteArray × Int} {i j:Nat} {v:Int} (k:Qa8 A n a i=v) (l:Qa8 A n a j=v) (c:v≠-1):i=j:=by
 obtain ⟨p,r,s,m,d⟩:=Qg7 k c;obtain ⟨q,t,u,o,f⟩:=Qg7 l c;have e:p=q:=by omega
 subst e;have b:a i=a j:=by rw [m,o]
 rcases Nat.lt_trichotomy i j with h|h|h
 ·have:=Qf5 (A:=a) h b;rw [<- b] at f;rw [b] at d;have g:=Qf5 (A:=a) (x:=a j) h b;rw [b] at f;omega
 ·exact h
 have g:=Qf5 (A:=a) (x:=a i) h b.symm;rw [b] at d;rw [b] at g;omega
theorem Qky (v:Nat->Int):∀ n c,c ∈ Qr v n->c≠[]/\c.Pairwise λx b=>b<x/\v b<v x
 | 0,c,h=>by simp [Qr] at h
 | i+1,c,h=>by
  have ih:=Qky v i;have q:=Qfs v i;have j:Qa3 (Qr v i) (Zy v (Qr v i) i) i≠[]/\(Qa3 (Qr v i) (Zy v (Qr v i) i) i).Pairwise λx b=>b<x/\v b<v x:=by
   refine ⟨by unfold Qa3;simp,?_⟩;unfold Qa3;split
   ·simp
   next A =>
   have B:=QkD v (Qr v i) i;have k:Zy v (Qr v i) i-1<(Qr v i).length:=by omega
   have m:(Qr v i).getD (Zy v (Qr v i) i-1) [] ∈ Qr v i:=by rw [Xg k];exact getElem_mem _
   have g:v (JF ((Qr v i).getD (Zy v (Qr v i) i-1) []))<v i:=by
    have r:∀ c,c ∈ (Qr v i).takeWhile (λc=>decide (v (JF c)<v i))->v (JF c)<v i:=λc s=>by have:=all_eq_true.1 (all_takeWhile (l:=Qr v i) (p:=λc=>decide (v (JF c)<v i))) c s;simpa using this
    refine r _ ?_;rw [Xg k];have t:Zy v (Qr v i) i-1<((Qr v i).takeWhile (λc=>decide (v (JF c)<v i))).length:=by show _<Zy v (Qr v i) i;omega
    have u:((Qr v i).takeWhile (λc=>decide (v (JF c)<v i)))[Zy v (Qr v i) i-1]=(Qr v i)[Zy v (Qr v i) i-1]:=(takeWhile_prefix _).getElem t;show (Qr v i)[Zy v (Qr v i) i-1] ∈ _;rw [<- u];exact getElem_mem _
   obtain ⟨C,o⟩:=ih _ m;have y:=q _ m;generalize (Qr v i).getD (Zy v (Qr v i) i-1) []=d at *;rw [pairwise_cons];refine ⟨λb f=>⟨y b f,?_⟩,o⟩;cases d with
   | nil=>simp at f
   | cons a d =>
    have z:JF (a::d)=a:=rfl;rw [z] at g;rcases mem_cons.1 f with e|e
    ·rw [e];exact g
    have:=((pairwise_cons.1 o).1 b e).2;omega
  rw [Qr] at h;unfold Qbc at h;split at h
  ·rcases mem_or_eq_of_mem_set h with h|h
   ·exact ih c h
   rw [h];exact j
  rcases mem_append.1 h with h|h
  ·exact ih c h
  rw [mem_singleton.1 h];exact j
theorem Qtb (v:Nat->Int) (n:Nat):∃ c:List Nat,Qcv v n=c.map v/\c.Pairwise (λx d=>x<d/\v x<v d)/\∀ x,x ∈ c->x<n:=by
 refine ⟨((Qr v n).getLastD []).reverse,?_,?_,?_⟩
 ·unfold Qcv;rw [map_reverse]
 ·rw [pairwise_reverse];cases e:Qr v n with| nil=>simp| cons a l=>exact (Qky v n _ (by rw [<- e];exact QfH _ _ (by rw [e];simp))).2
 intro x b;rw [mem_reverse] at b;cases e:Qr v n with| nil=>rw [e] at b;simp at b| cons a l=>exact Qfs v n _ (QfH _ _ (by rw [e];simp)) x b
theorem QlV (d:List Int):(ZV d).Pairwise (λa b=>a<b)/\(ZV d).Sublist d:=by
 obtain ⟨c,k,f,l⟩:=Qtb (λj=>(d.filter Ze).getD j 0) (d.filter Ze).length;unfold ZV;rw [k];refine ⟨pairwise_map.2 (f.imp λh=>h.2),?_⟩;have m:c.Sublist (List.range (d.filter Ze).length):=QcA (lt:=λa b:Nat=>a<b) (λa=>Nat.lt_irrefl a) (λa b c=>Nat.lt_trans) _ c (f.imp λh=>h.1) pairwise_lt_range λa n=>mem_range.2 (l a n);have g:=m.map (λj=>(d.filter Ze).getD j 0);have o:(List.range (d.filter Ze).length).map (λj=>(d.filter Ze).getD j 0)=d.filter Ze:=by refine ext_getElem (by simp) λi q p=>?_;simp [p]
 rw [o] at g;exact g.trans filter_sublist
def ZJ (a b:List Int) (k:Nat) (c:Int):Bool:=(List.range k).any λj=>(a.getD j 0==c)&&!(b.contains (j:Int))
theorem Qhe (a b:List Int) (k:Nat) (c:Int):ZJ a b (k+1) c=(ZJ a b k c||((a.getD k 0==c)&&!(b.contains (k:Int)))):=by unfold ZJ;rw [range_succ,any_append];simp
theorem Qfr {b d:List Int} {k:Nat} {c:Int}:ZJ b d k c=true↔∃ j,j<k/\b.getD j 0=c/\d.contains (j:Int)=false:=by
 unfold ZJ;rw [any_eq_true];constructor
 ·rintro ⟨j,a,e⟩;simp only [Bool.and_eq_true,beq_iff_eq,Bool.not_eq_true'] at e;exact ⟨j,mem_range.1 a,e.1,e.2⟩
 rintro ⟨j,a,f,g⟩;refine ⟨j,mem_range.2 a,?_⟩;rw [f,g];simp
theorem Qb5 {l:List Int} {j:Nat} (h:j<l.length):l.getD j 0 ∈ l:=by rw [Xg h];exact getElem_mem _
theorem QiI {l:List Int} (h:l.Nodup) {i j:Nat} (b:i<l.length) (c:j<l.length) (e:l.getD i 0=l.getD j 0):i=j:=by
 rw [Xg b,Xg c] at e;have e:l[i]=l[j]:=e;rcases Nat.lt_trichotomy i j with a|a|a
 ·exact absurd e (pairwise_iff_getElem.1 h i j b c a)
 ·exact a
 exact absurd e.symm (pairwise_iff_getElem.1 h j i c b a)
theorem QdH {R:List RN} (a:Qp R) {i:Int} (b:Qk R i):(Qc R i).kids.Nodup:=by rw [Qc0 a b];exact Qha a i
theorem QjL {R:List RN} {last:Int} (h:QE R last) {i c:Int} (a:Qk R i) (b:c ∈ (Qc R i).kids):c≠1:=λe=>by obtain ⟨n,d,f,g⟩:=Qe4 h.ids a b;obtain ⟨m,j,k,l⟩:=h.root;have:=Qg5 h.ids d j (by rw [g,k,e]);have o:=Qbf h.ids a;rw [this] at f;omega
theorem Qj9 {R:List RN} {last:Int} (h:QE R last) {id:Int} (g:Qk R id) {a:List Int} (s:(Qc R id).kids=a) (d:List Int) : ∀ k,k<=a.length->∃ R',Zv R last (ZY (λj=>a.getD j 0) d k) R' last/\QE R' last/\(∀ i,Qk R' i↔Qk R i/\∀ c,ZJ a d k c=true->¬ Qw (Qc R) c i)/\(∀ i,Qk R' i->i≠id->Qc R' i=Qc R i)/\Qk R' id/\Qc R' id={ Qc R id with kids:=a.filter (λc=>!ZJ a d k c) }/\R'.length<=R.length
 | 0,_=>by
  have e:a.filter (λc=>!ZJ a d 0 c)=a:=by rw [filter_eq_self];intro c _;rfl
  refine ⟨R,.nil ..,h,λi=>⟨λu=>⟨u,λc f=>by cases f⟩,λu=>u.1⟩,λ_ _ _=>rfl,g,?_,Nat.le_refl _⟩;rw [e,<- s]
 | k+1,hk=>by
  obtain ⟨R',J,A,x,B,C,K,L⟩:=Qj9 h g s d k (by omega);have y:=h.ids;have V:a.Nodup:=by rw [<- s];exact QdH y g
  cases v:d.contains (k:Int) with
  | true =>
   have e:∀ c,ZJ a d (k+1) c=ZJ a d k c:=λc=>by rw [Qhe,v];simp
   refine ⟨R',by rw [QhJ v];exact J,A,λi=>?_,B,C,?_,L⟩
   ·rw [x];simp only [e]
   rw [K];simp only [e]
  | false =>
   have G:k<a.length:=by omega
   generalize t:a.getD k 0=b;have T:b ∈ a:=by rw [<- t];exact Qb5 G
   have q:b ∈ (Qc R id).kids:=by rw [s];exact T
   have U:∀ c,ZJ a d k c=true->c ∈ (Qc R id).kids/\c≠b:=λc f=>by obtain ⟨j,Y,r,_⟩:=Qfr.1 f;refine ⟨by rw [s,<- r];exact Qb5 (by omega),λD=>?_⟩;have:=QiI V (show j<a.length by omega) G (by rw [r,t,D]);omega
   have z:∀ p,Qw (Qc R) b p->Qk R' p/\Qc R' p=Qc R p:=λp o=>by have M:Qk R' p:=(x p).2 ⟨Qa9 y (Jz y g q) o,λc f m=>by obtain ⟨l,n⟩:=U c f;exact QhR h g l q n m o⟩;exact ⟨M,B p M λe=>by subst e;exact Qcy h g q o⟩
   have F:∀ i,Qw (Qc R') b i↔Qw (Qc R) b i:=λi=>⟨λm=>m.back λp o=>(z p o).2,λm=>m.keep λp o=>(z p o).2⟩;obtain ⟨N,E,O,P,W⟩:=QqX A (z b (.self _)).1 (QjL h g q);have m:=A.did N;rw [P] at m;have H:¬ Qw (Qc R') b id:=λe=>Qcy h g q ((F id).1 e);have r:∀ c,ZJ a d (k+1) c=true↔ZJ a d k c=true \/ c=b:=λc=>by rw [Qhe,v,t];simp only [Bool.or_eq_true,Bool.and_eq_true,beq_iff_eq,Bool.not_false,and_true];exact or_congr Iff.rfl eq_comm
   refine ⟨_,by rw [Qhb v];exact J.app (by have S:=Zv.one N;rw [P] at S;simp only [t];exact S),m,λi=>?_,λi u I=>?_,?_,?_,Nat.le_trans W L⟩
   ·rw [E,x,F];constructor
    ·rintro ⟨⟨l,n⟩,X⟩;refine ⟨l,λc f=>?_⟩;rcases (r c).1 f with e|e
     ·exact n c e
     rw [e];exact X
    rintro ⟨l,n⟩;exact ⟨⟨l,λc f=>n c ((r c).2 (.inl f))⟩,n b ((r b).2 (.inr rfl))⟩
   ·obtain ⟨l,n⟩:=(E i).1 u;rw [O i l n,B i l I];have:(Qc R i).kids.filter (λj=>j !=b)=(Qc R i).kids:=by
     rw [filter_eq_self];intro c f;have:c≠b:=λe=>by subst e;exact I (Qfy y ((x i).1 l).1 g f q)
     simpa using this
    rw [this]
   ·exact (E id).2 ⟨C,H⟩
   rw [O id C H,K];have:(a.filter (λc=>!ZJ a d k c)).filter (λj=>j !=b)=a.filter (λc=>!ZJ a d (k+1) c):=by rw [filter_filter];refine filter_congr λc _=>?_;rw [Qhe,v,t];have D:(b==c)=(c==b):=BEq.comm;rw [D];cases ZJ a d k c<;>simp [bne]
   simp only [this]
def QkH (T:Int->NI) (L:Nat->Qd) (a:Br) (f:Nat):Prop :=
 ∀ (R:List RN) (last id:Int) (x:NI) (s n:Nat),QE R last->ZA R->n<=f->Qbk L s n->Qk R id->Qc R id=x->Qdv x->x.tag=(L s).t->x.key=(L s).k->R.length+n<=801->(∀ j,Qw (Qc R) id j->j≠id->Qc R j=T j) ->
 ∃ R',Zv R last (a id x s n last).1 R' (a id x s n last).2/\Jm R' L f id s n/\(∀ j,Qk R j->¬ Qw (Qc R) id j->Qk R' j/\Qc R' j=Qc R j/\¬ Qw (Qc R') id j)/\(∀ j,Qk R' j->(Qk R j/\¬ Qw (Qc R) id j) \/ Qw (Qc R') id j)/\R'.length+1<=R.length+n/\Qba R' T L f id x.kids s n
structure Ja (T:Int->NI) (L:Nat->Qd) (R:List RN) (id:Int) (y:NI) (ks pr:List Int) (s:Nat) (ps:List (Nat × Nat)) (f kt kp sz:Nat) (Rk:List RN) (kk proc sk:List Int):Prop where
 hid:Qk Rk id
 ni:Qc Rk id={ y with kids:=kk }
 len:proc.length=kp
 filt:kk.filter (λb=>proc.contains b||sk.contains b)=proc++sk
 mem:∀ b,b ∈ kk->b ∈ proc \/ ∃ j,kp<=j/\j<ps.length/\pr.getD j 0≠-1/\b=ks.getD (pr.getD j 0).toNat 0
 pend:∀ j,kp<=j->j<ps.length->pr.getD j 0≠-1->ks.getD (pr.getD j 0).toNat 0 ∈ kk/\ks.getD (pr.getD j 0).toNat 0 ∉ proc/\∀ i,Qw (Qc Rk) (ks.getD (pr.getD j 0).toNat 0) i->Qc Rk i=T i
 tree:∀ j,j<kt->Jm Rk L f (proc.getD j 0) (s+(ps.getD j (0,0)).1) ((ps.getD j (0,0)).2-(ps.getD j (0,0)).1)
 pairs:∀ j,j<kp->pr.getD j 0≠-1->proc.getD j 0=ks.getD (pr.getD j 0).toNat 0
 keeps:∀ j,j<kt->pr.getD j 0≠-1->Qba Rk T L f (proc.getD j 0) (T (proc.getD j 0)).kids (s+(ps.getD j (0,0)).1) ((ps.getD j (0,0)).2-(ps.getD j (0,0)).1)
 frame:∀ j,Qk R j->¬ Qw (Qc R) id j->Qk Rk j/\Qc Rk j=Qc R j/\¬ Qw (Qc Rk) id j
 cover:∀ j,Qk Rk j->(Qk R j/\¬ Qw (Qc R) id j) \/ Qw (Qc Rk) id j
 size:Rk.length<=R.length+sz
theorem Ja.kids {T:Int->NI} {L:Nat->Qd} {R:List RN} {id:Int} {m:NI} {d g:List Int} {s:Nat} {ps:List (Nat × Nat)} {f i j k:Nat} {a:List RN} {b c l:List Int} (h:Ja T L R id m d g s ps f i j k a b c l):(Qc a id).kids=b:=by rw [h.ni]
theorem Ja.inn {T:Int->NI} {L:Nat->Qd} {R:List RN} {id:Int} {n:NI} {g i:List Int} {s:Nat} {ps:List (Nat × Nat)} {f j k l:Nat} {m:List RN} {d a c:List Int} (h:Ja T L R id n g i s ps f j k l m d a c) {b:Int} (hb:b ∈ a \/ b ∈ c):b ∈ d:=by
 have:b ∈ a++c:=by rcases hb with e|e;exact mem_append_left _ e;exact mem_append_right _ e
 rw [<- h.filt] at this;exact (mem_filter.1 this).1
theorem Jo {T:Int->NI} {i j:Int}:Qw T i j↔j=i \/ ∃ c,c ∈ (T i).kids/\Qw T c j:=by
 constructor
 ·intro h;cases h with| self=>exact .inl rfl| step a b=>exact .inr ⟨_,a,b⟩
 rintro (e|⟨c,a,b⟩)
 ·subst e;exact .self _
 exact .step a b
theorem Ja.brought {T:Int->NI} {L:Nat->Qd} {R:List RN} {id:Int} {a0:NI} {K E:List Int} {s:Nat} {ps:List (Nat × Nat)} {f k a8:Nat} {m R':List RN} {l:Int} {n d M:List Int} {c:Int} (h:Ja T L R id a0 K E s ps f k (k+1) a8 m n (d++[c]) M) (I:QE m l) (a9:Jm R' L f c (s+(ps.getD k (0,0)).1) ((ps.getD k (0,0)).2-(ps.getD k (0,0)).1)) (N:∀ j,Qk m j->¬ Qw (Qc m) c j->Qk R' j/\Qc R' j=Qc m j/\¬ Qw (Qc R') c j) (aa:∀ j,Qk R' j->(Qk m j/\¬ Qw (Qc m) c j) \/ Qw (Qc R') c j) (a3:E.getD k 0≠-1->Qba R' T L f c (T c).kids (s+(ps.getD k (0,0)).1) ((ps.getD k (0,0)).2-(ps.getD k (0,0)).1)) {sz':Nat} (ab:R'.length<=R.length+sz') : Ja T L R id a0 K E s ps f (k+1) (k+1) sz' R' n (d++[c]) M:=by
 have O:=I.ids;have q:=h.kids;have V:c ∈ n:=h.inn (.inl (by simp));have G:c ∈ (Qc m id).kids:=by rw [q];exact V
 have U:d.length=k:=by have:=h.len;simp at this;exact this
 have a1:¬ Qw (Qc m) c id:=Qcy I h.hid G;obtain ⟨ac,Y,ah⟩:=N id h.hid a1;have a4:n.Nodup:=by rw [<- q];exact QdH O h.hid
 have a2:((d++[c])++M).Nodup:=by rw [<- h.filt];exact a4.filter _
 have W:c ∉ d:=λe=>by have:=(nodup_append.1 (nodup_append.1 a2).1).2.2 c e c (by simp);exact this rfl
 -- a child other than c
 have x:∀ b,b ∈ n->b≠c->∀ j,Qw (Qc m) b j->Qk R' j/\Qc R' j=Qc m j/\¬ Qw (Qc R') c j:=λb hb r j o => N j (Qa9 O (Jz O h.hid (by rw [q];exact hb)) o) λe=>QhR I h.hid (by rw [q];exact hb) G r o e;have H:∀ b,b ∈ n->b≠c->∀ j,Qw (Qc R') b j↔Qw (Qc m) b j:=λb hb r j=>⟨λe=>e.back λp P=>(x b hb r p P).2.1,λe=>e.keep λp P=>(x b hb r p P).2.1⟩;have F:(Qc R' id).kids=n:=by rw [Y,q]
 refine ⟨ac,by rw [Y];exact h.ni,h.len,h.filt,h.mem,λj a5 a6 C=>?_,λj o=>?_,h.pairs,λj o C=>?_,λj o ad=>?_,λj o=>?_,ab⟩
 ·obtain ⟨t,v,z⟩:=h.pend j a5 a6 C;have r:K.getD (E.getD j 0).toNat 0≠c:=λe=>v (by rw [e];simp);refine ⟨t,v,λi A=>?_⟩;have X:=(H _ t r i).1 A;rw [(x _ t r i X).2.1];exact z i X
 ·by_cases e:j=k
  ·subst e;have:(d++[c]).getD j 0=c:=by rw [getD_eq_getElem?_getD,<- U,getElem?_append_right (Nat.le_refl _)];simp
   rw [this];exact a9
  have y:j<d.length:=by omega
  have hb:(d++[c]).getD j 0 ∈ d:=by rw [getD_eq_getElem?_getD,getElem?_append_left y,getElem?_eq_getElem y];exact getElem_mem _
  have J:(d++[c]).getD j 0 ∈ n:=h.inn (.inl (mem_append_left _ hb));refine (h.tree j (by omega)).keep λi A=>?_;have:=x _ J (λB=>W (by rw [<- B];exact hb)) i A;exact ⟨this.1,this.2.1⟩
 ·by_cases e:j=k
  ·subst e;have:(d++[c]).getD j 0=c:=by rw [getD_eq_getElem?_getD,<- U,getElem?_append_right (Nat.le_refl _)];simp
   rw [this];exact a3 C
  have y:j<d.length:=by omega
  have hb:(d++[c]).getD j 0 ∈ d:=by rw [getD_eq_getElem?_getD,getElem?_append_left y,getElem?_eq_getElem y];exact getElem_mem _
  have J:(d++[c]).getD j 0 ∈ n:=h.inn (.inl (mem_append_left _ hb));exact (h.keeps j (by omega) C).keep λi A=>(x _ J (λB=>W (by rw [<- B];exact hb)) i A).2.1
 ·obtain ⟨t,v,z⟩:=h.frame j o ad;have a7:¬ Qw (Qc m) c j:=λe=>z (Jo.2 (.inr ⟨c,G,e⟩));obtain ⟨ae,af,ag⟩:=N j t a7;refine ⟨ae,af.trans v,λe=>?_⟩;rcases Jo.1 e with S|⟨b,hb,u⟩
  ·exact z (by rw [S];exact .self _)
  rw [F] at hb;by_cases D:b=c
  ·rw [D] at u;exact ag u
  exact z (Jo.2 (.inr ⟨b,by rw [q];exact hb,(H b hb D j).1 u⟩))
 rcases aa j o with ⟨t,v⟩|g
 ·rcases h.cover j t with e|e
  ·exact .inl e
  right;rcases Jo.1 e with S|⟨b,hb,u⟩
  ·rw [S];exact .self _
  rw [q] at hb;have D:b≠c:=λB=>by rw [B] at u;exact v u
  exact Jo.2 (.inr ⟨b,by rw [F];exact hb,(H b hb D j).2 u⟩)
 exact .inr (Jo.2 (.inr ⟨c,by rw [F];exact V,g⟩))
theorem QgL {P:Int->Bool} {h:Int}:∀ (l A d:List Int),l.filter P=A++h::d->h ∉ A->(l.takeWhile (λi=>i !=h)).filter P=A/\(l.dropWhile (λi=>i !=h)).filter P=h::d
 | [],A,d,e,_=>by have:=congrArg List.length e;simp at this
 | a::l,A,d,e,hA=>by
  by_cases f:a=h
  ·subst f;have k:A=[]:=by
    cases A with
    | nil=>rfl
    | cons b A =>
     have hb:b=a:=by
      by_cases c:P a=true
      ·rw [filter_cons_of_pos c] at e;exact ((List.cons.inj e).1).symm
      rw [filter_cons_of_neg c] at e;have g:a ∈ l.filter P:=by rw [e];simp
      exact absurd (mem_filter.1 g).2 c
     exact absurd (by rw [hb];simp) hA
   subst k;simp only [nil_append] at e;simp [e]
  have j:(a !=h)=true:=by simpa using f
  rw [takeWhile_cons_of_pos (p:=λi=>i !=h) j,dropWhile_cons_of_pos (p:=λi=>i !=h) j];by_cases c:P a=true
  ·rw [filter_cons_of_pos c] at e ⊢;cases A with| nil=>exact absurd (List.cons.inj e).1 f| cons b A =>obtain ⟨m,n⟩:=List.cons.inj e;obtain ⟨o,q⟩:=QgL l A d n λg=>hA (mem_cons_of_mem _ g);exact ⟨by rw [o,m],q⟩
  rw [filter_cons_of_neg c] at e ⊢;exact QgL l A d e hA
theorem QpU {bf c:Int} {l:List Int} (b:Int):b ∈ Qbz bf c l↔b=c \/ b ∈ l:=by
 unfold Qbz;split
 ·simp [or_comm]
 rw [mem_append,mem_append,mem_singleton];have:b ∈ l↔b ∈ l.takeWhile (λi=>i !=bf) \/ b ∈ l.dropWhile (λi=>i !=bf):=by rw [<- mem_append,takeWhile_append_dropWhile]
 rw [this];constructor
 ·rintro ((h|h)|h)
  ·exact .inr (.inl h)
  ·exact .inl h
  exact .inr (.inr h)
 rintro (h|h|h)
 ·exact .inl (.inr h)
 ·exact .inl (.inl h)
 exact .inr h
def Qco (a:List Int):Int:=match a with
 | []=>0
 | h::_=>h
theorem Qn4 {f a d:List Int} {c:Int} (k:f.filter (λb=>a.contains b||d.contains b)=a++d) (r:f.Nodup) (p:∀ b,b ∈ f->b≠0) (y:c ∉ a) (z:c ∉ d) : (Qbz (Qco d) c (f.filter (λj=>j !=c))).filter (λb=>(a++[c]).contains b||d.contains b)=(a++[c])++d:=by
 have s:a.contains c=false:=by simpa using y
 have u:d.contains c=false:=by simpa using z
 have m:∀ l:List Int,(∀ b,b ∈ l->b≠c)->l.filter (λb=>(a++[c]).contains b||d.contains b)=l.filter (λb=>a.contains b||d.contains b):=λl A=>by refine filter_congr λb hb=>?_;have:=A b hb;simp [this]
 have o:(f.filter (λj=>j !=c)).filter (λb=>a.contains b||d.contains b)=a++d:=by
  rw [<- k,filter_filter];refine filter_congr λb _=>?_;by_cases hb:b=c
  ·subst hb;rw [s,u];rfl
  have:(b !=c)=true:=by simpa using hb
  rw [this,Bool.and_true]
 have g:∀ b,b ∈ f.filter (λj=>j !=c)->b≠c:=λb hb=>by have:=(mem_filter.1 hb).2;simpa using this
 have n:[c].filter (λb=>(a++[c]).contains b||d.contains b)=[c]:=by simp
 unfold Qbz;cases d with
 | nil =>rw [if_pos (show Qco []=0 from rfl),filter_append,n,m _ g,o];simp
 | cons h t =>
  have q:h ∈ f:=by
   have:h ∈ a++h::t:=by simp
   rw [<- k] at this;exact (mem_filter.1 this).1
  have v:Qco (h::t)≠0:=p h q;rw [if_neg v];have x:h ∉ a:=λB=>by
   have C:(a++h::t).Nodup:=by rw [<- k];exact r.filter _
   exact (nodup_append.1 C).2.2 h B h (by simp) rfl
  obtain ⟨D,E⟩:=QgL _ a t o x;show (((f.filter (λj=>j !=c)).takeWhile (λi=>i !=h))++[c]++((f.filter (λj=>j !=c)).dropWhile (λi=>i !=h))).filter _=_;rw [filter_append,filter_append,n,m _ λb hb=>g b ((takeWhile_sublist _).subset hb),m _ λb hb=>g b ((dropWhile_sublist _).subset hb),D,E]
theorem Ja.stay {T:Int->NI} {L:Nat->Qd} {R:List RN} {id:Int} {v:NI} {i d:List Int} {s:Nat} {ps:List (Nat × Nat)} {f k q:Nat} {r:List RN} {l g m:List Int} {c:Int} (h:Ja T L R id v i d s ps f k k q r l g (c::m)) (t:c=i.getD (d.getD k 0).toNat 0) (x:∀ j,k<j->j<ps.length->d.getD j 0≠-1->i.getD (d.getD j 0).toNat 0≠c) : Ja T L R id v i d s ps f k (k+1) q r l (g++[c]) m:=by
 have o:=h.len;refine ⟨h.hid,h.ni,by simp [o],?_,λb hb=>?_,λj D p a=>?_,λj n=>?_,λj n a=>?_,λj n a=>?_,h.frame,h.cover,h.size⟩
 ·have e:l.filter (λb=>(g++[c]).contains b||m.contains b)=l.filter (λb=>g.contains b||(c::m).contains b):=filter_congr λb _=>by simp [Bool.or_assoc]
  rw [e,h.filt];simp
 ·rcases h.mem b hb with e|⟨j,E,y,z,u⟩
  ·exact .inl (mem_append_left _ e)
  by_cases e:j=k
  ·subst e;left;rw [u,<- t];simp
  exact .inr ⟨j,by omega,y,z,u⟩
 ·obtain ⟨A,B,C⟩:=h.pend j (by omega) p a;refine ⟨A,λe=>?_,C⟩;rcases mem_append.1 e with e|e
  ·exact B e
  exact x j (by omega) p a (mem_singleton.1 e)
 ·have:=h.tree j n;rw [getD_eq_getElem?_getD,getElem?_append_left (by omega),<- getD_eq_getElem?_getD];exact this
 ·by_cases e:j=k
  ·subst e;rw [getD_eq_getElem?_getD,<- o,getElem?_append_right (Nat.le_refl _),o];simpa using t
  rw [getD_eq_getElem?_getD,getElem?_append_left (by omega),<- getD_eq_getElem?_getD];exact h.pairs j (by omega) a
 rw [getD_eq_getElem?_getD,getElem?_append_left (by omega),<- getD_eq_getElem?_getD];exact h.keeps j n a
theorem Ja.put {T:Int->NI} {L:Nat->Qd} {R:List RN} {id:Int} {S:NI} {H t:List Int} {s:Nat} {ps:List (Nat × Nat)} {f k ab:Nat} {n Ri:List RN} {l:Int} {m a u:List Int} {c:Int} (h:Ja T L R id S H t s ps f k k ab n m a u) (V:QE n l) (F:∀ i,Qk Ri i↔Qk n i \/ i=c) (U:∀ i,Qk n i->i≠id->Qc Ri i=Qc n i) (W:Qc Ri id={ S with kids:=Qbz (Qco u) c (m.filter (λj=>j !=c)) }) (M:(c ∈ m/\(t.getD k 0≠-1->c=H.getD (t.getD k 0).toNat 0)) \/ (¬ Qk n c/\¬ Qk R c/\(Qc Ri c).kids=[]/\t.getD k 0=-1)) (a8:c ∉ a) (a9:c ∉ u) (a5:∀ j,k<j->j<ps.length->t.getD j 0≠-1->H.getD (t.getD j 0).toNat 0≠c) (ai:c ∈ m->t.getD k 0≠-1) {sz':Nat} (ac:Ri.length<=R.length+sz') : Ja T L R id S H t s ps f k (k+1) sz' Ri (Qbz (Qco u) c (m.filter (λj=>j !=c))) (a++[c]) u:=by
 have v:=V.ids;have J:=h.kids;have K:=h.len;have aa:m.Nodup:=by rw [<- J];exact QdH v h.hid
 have x:∀ b,b ∈ m->b ∈ (Qc n id).kids:=λb hb=>by rw [J];exact hb
 have a6:∀ b,b ∈ m->b≠0:=λb hb=>by have:=Qbf v (Jz v h.hid (x b hb));omega
 have B:∀ b,b ∈ m->∀ p,Qw (Qc n) b p->Qc Ri p=Qc n p:=λb hb p a3 => U p (Qa9 v (Jz v h.hid (x b hb)) a3) λe=>by subst e;exact Qcy V h.hid (x b hb) a3
 have G:∀ b,b ∈ m->∀ j,Qw (Qc Ri) b j↔Qw (Qc n) b j:=λb hb j=>⟨λe=>e.back (B b hb),λe=>e.keep (B b hb)⟩;have I:(Qc Ri id).kids=Qbz (Qco u) c (m.filter (λj=>j !=c)):=by rw [W]
 have A:∀ b,b ∈ Qbz (Qco u) c (m.filter (λj=>j !=c))↔b=c \/ b ∈ m:=λb=>by
  rw [QpU,mem_filter];constructor
  ·rintro (e|e)
   ·exact .inl e
   exact .inr e.1
  rintro (e|e)
  ·exact .inl e
  by_cases q:b=c
  ·exact .inl q
  exact .inr ⟨e,by simpa using q⟩
 have a7:Qk Ri id:=(F id).2 (.inl h.hid);refine ⟨a7,W,by simp [K],Qn4 h.filt aa a6 a8 a9,λb hb=>?_,λj aj X r=>?_,λj o=>?_,λj o r=>?_,λj o r=>?_,λj o ad=>?_,λj o=>?_,ac⟩
 ·rcases (A b).1 hb with e|e
  ·left;rw [e];simp
  rcases h.mem b e with e|⟨j,ak,ae,N,a4⟩
  ·exact .inl (mem_append_left _ e)
  by_cases q:j=k
  ·subst q;left;rcases M with ⟨_,g⟩|⟨_,_,_,g⟩
   ·rw [a4,<- g N];simp
   exact absurd g N
  exact .inr ⟨j,by omega,ae,N,a4⟩
 ·obtain ⟨y,O,D⟩:=h.pend j (by omega) X r;refine ⟨(A _).2 (.inr y),λe=>?_,λi z=>?_⟩
  ·rcases mem_append.1 e with e|e
   ·exact O e
   exact a5 j (by omega) X r (mem_singleton.1 e)
  have Y:=(G _ y i).1 z;rw [B _ y i Y];exact D i Y
 ·have C:j<a.length:=by omega
  have hb:a.getD j 0 ∈ a:=Qb5 C;have e:(a++[c]).getD j 0=a.getD j 0:=by rw [getD_eq_getElem?_getD,getElem?_append_left C,<- getD_eq_getElem?_getD]
  rw [e];have a0:=h.inn (.inl hb);exact (h.tree j o).keep λi z=>⟨(F i).2 (.inl (Qa9 v (Jz v h.hid (x _ a0)) z)),B _ a0 i z⟩
 ·by_cases e:j=k
  ·subst e;rw [getD_eq_getElem?_getD,<- K,getElem?_append_right (Nat.le_refl _),K];rcases M with ⟨_,g⟩|⟨_,_,_,g⟩
   ·simpa using g r
   exact absurd g r
  rw [getD_eq_getElem?_getD,getElem?_append_left (by omega),<- getD_eq_getElem?_getD];exact h.pairs j (by omega) r
 ·have C:j<a.length:=by omega
  have hb:a.getD j 0 ∈ a:=Qb5 C;have e:(a++[c]).getD j 0=a.getD j 0:=by rw [getD_eq_getElem?_getD,getElem?_append_left C,<- getD_eq_getElem?_getD]
  rw [e];exact (h.keeps j o r).keep λi z=>B _ (h.inn (.inl hb)) i z
 ·obtain ⟨y,O,D⟩:=h.frame j o ad;have a1:j≠id:=λe=>D (by rw [e];exact .self _);refine ⟨(F j).2 (.inl y),(U j y a1).trans O,λe=>?_⟩;rcases Jo.1 e with P|⟨b,hb,E⟩
  ·exact a1 P
  rw [I] at hb;rcases (A b).1 hb with q|q
  ·subst q;rcases M with ⟨g,_⟩|⟨_,af,ag,_⟩
   ·exact D (Jo.2 (.inr ⟨b,x b g,(G b g j).1 E⟩))
   rcases Jo.1 E with ah|⟨d,a2,_⟩
   ·rw [ah] at o;exact af o
   rw [ag] at a2;cases a2
  exact D (Jo.2 (.inr ⟨b,x b q,(G b q j).1 E⟩))
 rcases (F j).1 o with g|g
 ·rcases h.cover j g with e|e
  ·exact .inl e
  right;rcases Jo.1 e with P|⟨b,hb,E⟩
  ·rw [P];exact .self _
  rw [J] at hb;exact Jo.2 (.inr ⟨b,by rw [I];exact (A b).2 (.inr hb),(G b hb j).2 E⟩)
 right;rw [g];exact Jo.2 (.inr ⟨c,by rw [I];exact (A c).2 (.inl rfl),.self _⟩)
end Go.Proofs.YtobgcaemnpkbmaaGreatDoor
