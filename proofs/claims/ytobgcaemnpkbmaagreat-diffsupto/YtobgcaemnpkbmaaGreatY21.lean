import Derived.Test.YtobgcaemnpkbmaaGreatY20
namespace Go.Proofs.YtobgcaemnpkbmaaGreat
set_option maxRecDepth 100000
set_option maxHeartbeats 8000000
open Go.RowKit List
variable {nm:ByteArray} {bf l1 l2 last pa:Int} {T T':Int->NI} {nb rk:Int->Nat} {l:List (ByteArray × ByteArray)} {P:List Qh} {R R' R1 R2:List RN} {y:NI} {B c db i j k mb n q r s:Nat} {A:Nat->ByteArray × Int} {L:Nat->Qd} {ao:Option Addr} {ln:Qd} {x:Qh} {ρ:Qz} {w w':World}
theorem Qic (a:Qw R last):∃ r,∃ d:r<R.length,R[r].id=1/\Qk R 1=(r:Int):=by
 obtain ⟨n,b,c,_⟩:=a.root;rcases QaG a.ids 1 with e|⟨e,_⟩
 ·exact e
 exact absurd c (e n b)
theorem Qwj (b:Qw R last) (c:r<R.length) (d:Int):(Qo R R.length r d).length<=R.length:=by obtain ⟨rk,a⟩:=b.up;exact Qgn a b.ids (Qae a c)
structure Qdl (ρ:Qz) (nb:Int->Nat) (mb q db:Nat) (w:World) (R:List RN) (last:Int):Prop where
 blk:w.heap[db]?=some (.cells #[Xp q] 84 (0,0))
 out:ρ db=none
 dom:Ql ρ nb mb (some (nb 1)) w q R last
 ok:Qw R last
 fine:Zw R
def Qf6 (c a:Qz):Prop:=∀ b,(c b).isSome=true->a b=none
theorem Qdl.below {c:Qz} {nb:Int->Nat} {d q b:Nat} {w w':World} {R:List RN} {last:Int} (a:Qdl c nb d q b w R last) (f:Xb w w'):Qdl c nb d q b w' R last := ⟨(f.block b (Q9 a.blk)).trans a.blk,a.out,a.dom.below f,a.ok,a.fine⟩
theorem Qdl.other {d c:Qz} (a:Qdl ρ nb mb q db w R last) (h:Qf6 ρ d) (i:d db=none) (f:Zj d c w w'):Qdl ρ nb mb q db w' R last/\Qf6 ρ c/\c db=none:=by
 have j:∀ b,b<w.heap.size->d b=none->c b=none:=λb l e=>by
  cases k:c b with
  | none=>rfl
  | some v =>
   rcases f.2.2 b (by rw [k];rfl) with g|g
   ·rw [e] at g;cases g
   omega
 refine ⟨⟨(f.1.block db (Q9 a.blk) (by rw [i];simp)).trans a.blk,a.out,a.dom.touch f.1 λb e=>by rw [h b e];simp,a.ok,a.fine⟩,λb e=>j b (a.dom.low b e) (h b e),j db (Q9 a.blk) i⟩
def Qvb:Qh:=⟨0,0,0,0,0,⟨#[]⟩,⟨#[]⟩,⟨#[]⟩⟩
def Zg (P:List Qh) (i:Nat):Qh:=P.getD i Qvb
theorem Qp7 (P:List Qh):∀ j,j<P.length*8->(Qa2 P)[j]?=some (Jm (Zg P) j):=by
 induction P with
 | nil=>intro j a;simp at a
 | cons x P ih =>
  intro j a
  have e:Qa2 (x::P)=x.cells++Qa2 P:=by unfold Qa2;rw [flatMap_cons]
  rw [e]
  by_cases b:j<8
  ·rw [getElem?_append_left (by show j<8;exact b)]
   match j,b with
   | 0,_=>rfl
   | 1,_=>rfl
   | 2,_=>rfl
   | 3,_=>rfl
   | 4,_=>rfl
   | 5,_=>rfl
   | 6,_=>rfl
   | 7,_=>rfl
  ·rw [getElem?_append_right (by show 8<=j;omega)]
   have c:j-x.cells.length=j-8:=rfl
   rw [c,ih (j-8) (by simp at a;omega)]
   unfold Jm
   have d:j / 8=(j-8) / 8+1:=by omega
   have f:(j-8) % 8=j % 8:=by omega
   rw [d,f]
   rfl
theorem Qet (a:w.ownsRow B 29 8 (.slice ao n c) n (Qa2 P)) (i:n=P.length):JV w ao n (Zg P):=λk=>by
 rcases a.2 with ⟨e,l⟩|⟨g,f,h,e,m,b,_⟩
 ·omega
 simp at e;obtain ⟨rfl,rfl⟩:=e;refine ⟨g,0,rfl,(Xd0.1 b).1,λj d=>?_⟩;rw [Nat.zero_add,a.cellAt j d,Qp7 P j (by omega)]

structure QtG (w0 w:World) (d1 d2:Nat) (R1 R2:List RN) (l1 l2:Int) (ρ1 ρ2:Qz) (n1 n2:Int->Nat) (m1 m2 q1 q2:Nat):Prop where
 one:Qdl ρ1 n1 m1 q1 d1 w R1 l1
 two:Qdl ρ2 n2 m2 q2 d2 w R2 l2
 a12:Qf6 ρ1 ρ2
 a21:Qf6 ρ2 ρ1
 o12:ρ1 d2=none
 o21:ρ2 d1=none
 bel:Xb w0 w
 b1:∀ b,(ρ1 b).isSome=true->w0.heap.size<=b
 b2:∀ b,(ρ2 b).isSome=true->w0.heap.size<=b
def Two (c w:World) (d f:Nat) (g h:List RN) (i j:Int):Prop:=∃ a b k l m n q1 q2,QtG c w d f g h i j a b k l m n q1 q2
theorem Two.below {c w w':World} {d f:Nat} {g h:List RN} {i j:Int} (a:Two c w d f g h i j) (b:Xb w w'):Two c w' d f g h i j:=by obtain ⟨k,l,m,n,o,p,q1,q2,a⟩:=a;exact ⟨k,l,m,n,o,p,q1,q2,a.one.below b,a.two.below b,a.a12,a.a21,a.o12,a.o21,a.bel.trans (b.mono a.bel.size),a.b1,a.b2⟩
theorem Two.bel {b w:World} {c d:Nat} {f g:List RN} {h i:Int} (a:Two b w c d f g h i):Xb b w:=by obtain ⟨j,k,l,m,n,o,q1,q2,a⟩:=a;exact a.bel
theorem QhZ (a:Qw R last) (b:r<R.length) (j:R[r].id=1):(Qm R R.length r).length=(Qo R R.length r 0).length/\(Qm R R.length r).getD 0 0=1/\0<(Qm R R.length r).length/\(Qm R R.length r).length<=R.length/\(Qm R R.length r).Nodup:=by
 obtain ⟨rk,c⟩:=a.up;have e:=Qc2 R R.length r 0;have m:(Qm R R.length r).length=(Qo R R.length r 0).length:=by rw [<- e,length_map]
 have q:=Qwj a b 0;have d:∃ l,Qm R R.length r=1::l:=by cases s:R.length with| zero=>omega| succ f=>exact ⟨_,by rw [Qm,QV b,j]⟩
 obtain ⟨l,d⟩:=d;refine ⟨m,by rw [d];rfl,by rw [d];simp,by omega,?_⟩;rw [<- e];have g:=Qjs c a.ids R.length r 0 (Qae c b);unfold List.Nodup at g ⊢;rw [pairwise_map] at g ⊢;refine g.imp_of_mem fun {x p} n o k e=>k ?_;have h:=(Qc0 a.ids _ _ _ (Qae c b) x n).1;have i:=(Qc0 a.ids _ _ _ (Qae c b) p o).1;rw [QV h,QV i] at e;exact a.ids.inj _ _ h i e
def Qr (R:List RN) (i:Int):Prop:=∃ n,n ∈ R/\n.id=i
theorem QlU {i:Int} (c:Qr R i):∃ j,∃ a:j<R.length,R[j].id=i:=by obtain ⟨n,b,e⟩:=c;obtain ⟨j,a,rfl⟩:=Xa3 b;exact ⟨j,a,e⟩
theorem QdB (a:Qx R) {i:Int} (d:Qr R i):∃ k,∃ f:k<R.length,R[k].id=i/\Qk R i=(k:Int):=by
 rcases QaG a i with e|⟨e,_⟩
 ·exact e
 obtain ⟨n,b,c⟩:=d;exact absurd c (e n b)
theorem QdR (a:Qx R) (b:k<R.length):Qc R R[k].id=⟨R[k].key,R[k].tag,R[k].text,R[k].ats,Qf R R[k].id⟩:=JC a (Xa0 b)
theorem QhF (a:Qx R) {m n:RN} (b:m ∈ R) (c:n ∈ R) (e:m.id=n.id):m=n:=by obtain ⟨i,d,rfl⟩:=Xa3 b;obtain ⟨j,f,rfl⟩:=Xa3 c;have:=a.inj i j d f e;subst this;rfl
theorem Qt4 {n:RN} (f:k<R.length) (c:n.id=R[k].id) (i:Int):Qr (R.set k n) i↔Qr R i:=by
 constructor
 ·rintro ⟨m,g,e⟩;rcases Xb2 g with a|a
  ·exact ⟨m,a,e⟩
  subst a;exact ⟨R[k],Xa0 f,by rw [<- c];exact e⟩
 intro a;obtain ⟨j,d,e⟩:=QlU a;by_cases b:j=k
 ·subst b;exact ⟨n,mem_set d n,by rw [c];exact e⟩
 refine ⟨R[j],?_,e⟩;have:(R.set k n)[j]'(by rw [length_set];exact d)=R[j]:=getElem_set_ne (λe=>b e.symm) _;rw [<- this];exact Xa0 _
theorem Qof (d:Qx R) {n:RN} (a:k<R.length) (b:n.id=R[k].id) (f:n.par=R[k].par):Qc (R.set k n) R[k].id=⟨n.key,n.tag,n.text,n.ats,Qf R R[k].id⟩:=by have c:=JC (QeN d a b) (mem_set a n);rw [b,Qgz a b f] at c;exact c
theorem QuH (a:Qx R) {n:RN} (b:k<R.length) (c:n.id=R[k].id) (h:n.par=R[k].par) {i:Int} (l:Qr R i) (f:i≠R[k].id):Qc (R.set k n) i=Qc R i:=by
 obtain ⟨j,d,rfl⟩:=QlU l;have g:j≠k:=λe=>by subst e;exact f rfl
 have e:(R.set k n)[j]'(by rw [length_set];exact d)=R[j]:=getElem_set_ne (λe=>g e.symm) _;have m:R[j] ∈ R.set k n:=by rw [<- e];exact Xa0 _
 rw [JC (QeN a b c) m,Qgz b c h,QdR a d]
theorem Qos (R:List RN) (n:RN) (i:Int):Qr (R++[n]) i↔Qr R i \/ i=n.id:=by
 constructor
 ·rintro ⟨m,a,e⟩;rcases Xa4.1 a with b|b
  ·exact .inl ⟨m,b,e⟩
  rw [mem_singleton.1 b] at e;exact .inr e.symm
 rintro (⟨m,a,e⟩|rfl)
 ·exact ⟨m,mem_append_left _ a,e⟩
 exact ⟨n,mem_append_right _ (Xa2.2 rfl),rfl⟩
theorem Qb8 (a:Qx R) {i:Int} (c:Qr R i):0<i:=by obtain ⟨n,b,rfl⟩:=c;exact a.pos n b
theorem QnY {n:RN} (d:Qx (R++[n])) (a:Qx R) (f:n.par=0) {i:Int} (b:Qr R i):Qc (R++[n]) i=Qc R i:=by have g:=Qb8 a b;obtain ⟨m,c,rfl⟩:=b;rw [JC d (mem_append_left _ c),JC a c,Jt,QaB,if_neg (by omega),append_nil]
theorem Qwm (i:Qw R last) {q:Int} (j:q≠0) (b:¬ Qr R q):Qf R q=[]:=by
 cases e:Qf R q with
 | nil=>rfl
 | cons c l =>
  obtain ⟨n,d,f,_⟩:=Qbb.1 (show c ∈ Qf R q by rw [e];exact mem_cons_self ..);obtain ⟨rk,g⟩:=i.up;rcases g.par n d with a|⟨m,h,a⟩
  ·omega
  exact absurd ⟨m,h,by rw [a,f]⟩ b
theorem Qqz {n:RN} (a:Qw R last) (b:Qx (R++[n])) (g:n.par=0) (f:n.id=last+1):Qc (R++[n]) n.id=⟨n.key,n.tag,n.text,n.ats,[]⟩:=by
 have h:=a.last_pos;have c:¬ Qr R n.id:=by rintro ⟨m,d,e⟩;have:=a.top m d;omega
 rw [JC b (mem_append_right _ (mem_singleton.2 rfl)),Jt,QaB,if_neg (by omega),append_nil,Qwm a (by omega) c]
theorem Qj1 {q c:Int} (d:∀ n,n ∈ R->n.id≠c):(Qf R q).filter (λi=>i !=c)=Qf R q:=by rw [filter_eq_self];intro i a;obtain ⟨n,b,_,e⟩:=Qbb.1 a;have:=d n b;rw [e] at this;simpa using this
theorem Qjm (d:Qx R) (a:k<R.length) {q:Int} (g:q≠0):Qf (QW R k) q=(Qf R q).filter (λi=>i !=R[k].id):=by
 have h:∀ n,n ∈ R.take k->n.id≠R[k].id:=λn b e=>by obtain ⟨j,c,rfl⟩:=Xa3 b;rw [length_take] at c;rw [getElem_take] at e;have:=d.inj j k (by omega) a e;omega
 have m:∀ n,n ∈ R.drop (k+1)->n.id≠R[k].id:=λn b e=>by obtain ⟨j,c,rfl⟩:=Xa3 b;rw [length_drop] at c;rw [getElem_drop] at e;have:=d.inj (k+1+j) k (by omega) a e;omega
 have o:Qf R q=Qf (R.take k++[R[k]]++R.drop (k+1)) q:=congrArg (λl=>Qf l q) (Qe9 a);rw [J2 a,Qfb _ a,o];simp only [Jt,QaB,filter_append];rw [Qj1 h,Qj1 m,if_neg (λe:(0:Int)=q=>g e.symm)];by_cases f:R[k].par=q
 ·rw [if_pos f];simp
 rw [if_neg f];simp
def QbU (bf c:Int) (l:List Int):List Int:=if bf=0 then l++[c] else l.takeWhile (λi=>i !=bf)++[c]++l.dropWhile (λi=>i !=bf)
theorem Qme {bf:Int}:∀ (l:List Int) (i:Nat),l[i]?=some bf->(∀ j,j<i->l[j]?≠some bf)->l.takeWhile (λb=>b !=bf)=l.take i/\l.dropWhile (λb=>b !=bf)=l.drop i
 | [],i,h,_=>by simp at h
 | a::l,0,h,_=>by
  have e:a=bf:=by simpa using h
  subst e;simp
 | a::l,i+1,h,hn=>by have e:a≠bf:=λe=>hn 0 (by omega) (by simp [e]);have ih:=Qme l i (by simpa using h) (λj c=>by have:=hn (j+1) (by omega);simpa using this);simp [e,ih.1,ih.2]
theorem Qvx (d:Qx R) (a:k<R.length) {q:Int} (c:q≠0) (F:pa≠0) (A:bf=0 \/ (bf≠R[k].id/\bf ∈ Qf R pa)) : Qf (QM R { R[k] with par:=pa } k bf) q=if q=pa then QbU bf R[k].id ((Qf R q).filter (λi=>i !=R[k].id)) else (Qf R q).filter (λi=>i !=R[k].id):=by
 have f:k<(QW R k).length:=by rw [J2 a,length_set];exact a
 have u:Qx (QW R k):=by rw [J2 a];exact QeN d a rfl
 have g:(QW R k)[k].par=0:=by rw [QhD a f]
 rw [<- QhG a];by_cases e:q=pa
 ·subst e;rw [if_pos rfl];unfold QbU;rcases A with rfl|⟨v,x⟩
  ·rw [if_pos rfl,Qmo f (by rw [g];exact λe=>c e.symm) rfl,Qjm d a c]
  obtain ⟨m,p,y,l⟩:=Qbb.1 x;have h:bf≠0:=by have:=d.pos m p;omega
  rw [if_neg h];obtain ⟨b,o,rfl⟩:=Xa3 p;have z:b≠k:=λe=>by subst e;exact v l.symm
  have j:b<(QW R k).length:=by rw [J2 a,length_set];exact o
  have r:(QW R k)[b]=R[b]:=Qgy a o z j;obtain ⟨i,_,s,t,B⟩:=Qlg (n:={ R[k] with par:=q }) u f (by rw [g];exact λe=>c e.symm) rfl j (by rw [r];exact l) (by rw [r];exact y) h;rw [B];rw [Qjm d a c] at s t ⊢;obtain ⟨C,D⟩:=Qme _ i s t;rw [C,D]
 rw [if_neg e,QhA f (by rw [g];exact λe=>c e.symm) (λE=>e E.symm),Qjm d a c]
theorem Qwe (g:Qx R) (d:k<R.length) (h:bf=0 \/ ∃ i,i<R.length/\Qg R i=bf) (i:Int):Qr (QM R { R[k] with par:=pa } k bf) i↔Qr R i:=by
 obtain ⟨b,f⟩:=QdK (n:={ R[k] with par:=pa }) g d h;constructor
 ·rintro ⟨m,c,rfl⟩;rcases Xa4.1 (b.mem_iff.1 c) with a|a
  ·exact ⟨m,f.mem_iff.2 (mem_append_left _ a),rfl⟩
  rw [mem_singleton.1 a];exact ⟨R[k],Xa0 d,rfl⟩
 rintro ⟨m,c,rfl⟩;rcases Xa4.1 (f.mem_iff.1 c) with a|a
 ·exact ⟨m,b.mem_iff.2 (mem_append_left _ a),rfl⟩
 rw [mem_singleton.1 a];exact ⟨_,b.mem_iff.2 (mem_append_right _ (Xa2.2 rfl)),rfl⟩
theorem Qru (a:Qx R) (c:k<R.length) (r:pa≠0) (s:bf=0 \/ (bf≠R[k].id/\bf ∈ Qf R pa)) (g:bf=0 \/ ∃ i,i<R.length/\Qg R i=bf) {i:Int} (l:Qr R i) : Qc (QM R { R[k] with par:=pa } k bf) i={ Qc R i with kids:=if i=pa then QbU bf R[k].id ((Qc R i).kids.filter (λj=>j !=R[k].id)) else (Qc R i).kids.filter (λj=>j !=R[k].id) }:=by
 obtain ⟨o,t⟩:=QdK (n:={ R[k] with par:=pa }) a c g;have h:=Qin (n:={ R[k] with par:=pa }) a c g rfl;have u:=Qb8 a l;obtain ⟨m,p,rfl⟩:=l;have f:=Qvx a c (q:=m.id) (by omega) r s;rw [JC a p];rcases Xa4.1 (t.mem_iff.1 p) with d|d
 ·have b:=JC h (o.mem_iff.2 (mem_append_left [{ R[k] with par:=pa }] d));rw [b,f]
 have e:=Xa2.1 d;subst e;have b:=JC h (o.mem_iff.2 (mem_append_right (QbQ R k R.length) (Xa2.2 (rfl:({ R[k] with par:=pa }:RN)=_))));rw [f] at b;exact b
theorem Qql (R:List RN) (L:List Int) (q:Int):Qf (Qag R L) q=(Qf R q).filter (λi=>!(L.contains i)):=by
 unfold Qf Qag;rw [filter_map,filter_filter,filter_filter];congr 1
 refine filter_congr λn _=>?_;simp [Bool.and_comm]
theorem QoQ (c:Qw R last) (d:k<R.length) (i:Int):Qr (Jl R (Qo R R.length k 0)) i↔Qr R i/\i ∉ Qm R R.length k:=by
 obtain ⟨rk,f⟩:=c.up;rw [QgV c.ids (Qae f d)];constructor
 ·rintro ⟨m,a,rfl⟩;obtain ⟨g,b⟩:=QdG.1 a;exact ⟨⟨m,g,rfl⟩,b⟩
 rintro ⟨⟨m,a,rfl⟩,b⟩;exact ⟨m,QdG.2 ⟨a,b⟩,rfl⟩
theorem QsC (s:Qw R last) (h:k<R.length) {i:Int} (l:Qr R i) (o:i ∉ Qm R R.length k):Qc (Jl R (Qo R R.length k 0)) i={ Qc R i with kids:=(Qc R i).kids.filter (λj=>j !=R[k].id) }:=by
 obtain ⟨rk,x⟩:=s.up;have a:=s.ids;have q:=Qae x h;have C:=Qb8 a l;obtain ⟨m,r,rfl⟩:=l;have d:Qx (Jl R (Qo R R.length k 0)):=Qnd a;rw [QgV a q] at d ⊢;rw [JC d (QdG.2 ⟨r,o⟩),JC a r,Qql];congr 1
 refine filter_congr λj y=>?_;obtain ⟨c,z,A,rfl⟩:=Qbb.1 y;obtain ⟨p,b,rfl⟩:=Xa3 z;by_cases e:R[p].id=R[k].id
 ·have t:=a.inj p k b h e;subst t;have:R[p].id ∈ Qm R R.length p:=by cases E:R.length with| zero=>omega| succ f=>rw [Qm,QV b];exact mem_cons_self ..
  simp [this]
 have:R[p].id ∉ Qm R R.length k:=λu=>by
  rcases Qlh a q b u with B|⟨n,D,v,g⟩
  ·subst B;exact e rfl
  rw [v,A] at g;exact o g
 simp [this,e]
inductive QG (T:Int->NI):Int->Int->Prop
 | self (i:Int):QG T i i
 | step {i k j:Int}:k ∈ (T i).kids->QG T k j->QG T i j
theorem QdS (a:Qx R) {i:Int} (c:Qr R i):(Qc R i).kids=Qf R i:=by obtain ⟨n,b,rfl⟩:=c;rw [JC a b]
theorem QeK {R:List RN} (c:Qx R):∀ (f a:Nat),ZF R f a->∀ x,x ∈ Qm R f a↔QG (Qc R) (Qg R a) x
 | 0,_,h,_=>by cases h
 | f+1,a,h,x=>by
  obtain ⟨i,j⟩:=h;have d:Qr R (Qg R a):=by rw [QV i];exact ⟨_,Xa0 i,rfl⟩
  have n:Qg R a≠0:=by have:=Qb8 c d;omega
  have g:(Qn R (Qg R a)).map (Qg R)=(Qc R (Qg R a)).kids:=by rw [QdS c d,Qcm R n]
  rw [Qm,mem_cons,mem_flatMap];constructor
  ·rintro (rfl|⟨k,b,m⟩)
   ·exact .self _
   refine .step (k:=Qg R k) ?_ ((QeK c f k (j k b) x).1 m);rw [<- g];exact Xa5.2 ⟨k,b,rfl⟩
  intro o;cases o with| self=>exact .inl rfl| step l p =>rw [<- g] at l;obtain ⟨k,b,rfl⟩:=Xa5.1 l;exact .inr ⟨k,b,(QeK c f k (j k b) x).2 p⟩
theorem QqK (d:R.length<800) {a:Int} {b c:ByteArray} (f:ZZ (JP b a c)=true) : canP R last ⟨1,last+1,0,0,a,b,⟨#[]⟩,c⟩=true/\QN R ⟨1,last+1,0,0,a,b,⟨#[]⟩,c⟩=R++[Qer ⟨1,last+1,0,0,a,b,⟨#[]⟩,c⟩]/\Jz last ⟨1,last+1,0,0,a,b,⟨#[]⟩,c⟩=last+1:=by refine ⟨?_,rfl,rfl⟩;unfold canP;rw [if_pos (by simp)];unfold Jy;simp only [f,Bool.true_and,Bool.and_eq_true,decide_eq_true_eq,beq_self_eq_true];exact ⟨⟨⟨d,trivial⟩,trivial⟩,by simp⟩
theorem QfO (a:k<R.length) {i:Int} (b:Qk R i=(k:Int)):JZ R (Qk R i).toNat=R[k]:=by rw [b,Int.toNat_natCast,JT a]
theorem QmJ (P:Qw R last) {c:Int} (G:Qr R c) (z:c≠1) (l:Qr R pa) (t:(Qc R pa).tag.toList.isEmpty=false) (H:bf=0 \/ (bf≠c/\bf ∈ (Qc R pa).kids)) (I:¬ Qbi R pa c) : canP R last ⟨2,c,pa,bf,0,⟨#[]⟩,⟨#[]⟩,⟨#[]⟩⟩=true/\(∀ i,Qr (QN R ⟨2,c,pa,bf,0,⟨#[]⟩,⟨#[]⟩,⟨#[]⟩⟩) i↔Qr R i)/\(∀ i,Qr R i->Qc (QN R ⟨2,c,pa,bf,0,⟨#[]⟩,⟨#[]⟩,⟨#[]⟩⟩) i={ Qc R i with kids:=if i=pa then QbU bf c ((Qc R i).kids.filter (λj=>j !=c)) else (Qc R i).kids.filter (λj=>j !=c) })/\Jz last ⟨2,c,pa,bf,0,⟨#[]⟩,⟨#[]⟩,⟨#[]⟩⟩=last/\(QN R ⟨2,c,pa,bf,0,⟨#[]⟩,⟨#[]⟩,⟨#[]⟩⟩).length=R.length:=by
 have a:=P.ids;obtain ⟨k,d,n,o⟩:=QdB a G;obtain ⟨p,v,A,B⟩:=QdB a l;have S:=Qb8 a l;have y:=QdS a l;have C:Qc R pa=⟨R[p].key,R[p].tag,R[p].text,R[p].ats,Qf R R[p].id⟩:=by rw [<- A];exact QdR a v
 have q:bf=0 \/ (bf≠R[k].id/\bf ∈ Qf R pa):=by
  rcases H with e|⟨s,f⟩
  ·exact .inl e
  rw [y] at f;rw [n];exact .inr ⟨s,f⟩
 have r:bf=0 \/ ∃ i,i<R.length/\Qg R i=bf:=by
  rcases q with e|⟨_,e⟩
  ·exact .inl e
  obtain ⟨m,g,_,rfl⟩:=Qbb.1 e;obtain ⟨j,b,rfl⟩:=Xa3 g;exact .inr ⟨j,b,QV b⟩
 have D:ZI R ⟨2,c,pa,bf,0,⟨#[]⟩,⟨#[]⟩,⟨#[]⟩⟩=R[k]:=QfO d o;have h:QN R ⟨2,c,pa,bf,0,⟨#[]⟩,⟨#[]⟩,⟨#[]⟩⟩=QM R { R[k] with par:=pa } k bf:=by unfold QN;rw [if_neg (by simp),if_pos (by simp),D];show QM R _ (Qk R c).toNat bf=_;rw [o,Int.toNat_natCast]
 refine ⟨?_,λi=>?_,λi J=>?_,rfl,?_⟩
 ·unfold canP;rw [if_neg (by simp),if_pos (by simp)];unfold insB;have K:∀ i:Decidable (Qbi R pa c),@decide _ i=false:=λi=>Xc3 I;have s:JZ R p=R[p]:=JT v;have f:R[p].tag.toList.isEmpty=false:=by rw [C] at t;exact t
  have L:(!(bf !=0)||(decide (0<=Qk R bf)&&!((JZ R (Qk R bf).toNat).par !=pa)&&!(bf==c)))=true:=by
   rcases q with e|⟨x,M⟩
   ·rw [e];rfl
   obtain ⟨m,g,E,rfl⟩:=Qbb.1 M;obtain ⟨j,b,F,u⟩:=QdB a ⟨m,g,rfl⟩;have N:R[j]=m:=QhF a (Xa0 b) g F;rw [QfO b u,u,N,E];rw [n] at x;have:(m.id==c)=false:=Xd5.2 x;simp [this]
  have O:(c==1)=false:=Xd5.2 z;simp only [K,L,o,B,Int.toNat_natCast,s,f,O];simp
 ·rw [h];exact Qwe a d r i
 ·rw [h];have:=Qru a d (pa:=pa) (by omega) q r J;rw [n] at this;exact this
 rw [h];exact Qhb a d r
theorem QqV (b:Qw R last) {c:Int} (o:Qr R c) (n:c≠1) : canP R last ⟨3,c,0,0,0,⟨#[]⟩,⟨#[]⟩,⟨#[]⟩⟩=true/\(∀ i,Qr (QN R ⟨3,c,0,0,0,⟨#[]⟩,⟨#[]⟩,⟨#[]⟩⟩) i↔Qr R i/\¬ QG (Qc R) c i)/\(∀ i,Qr R i->¬ QG (Qc R) c i->Qc (QN R ⟨3,c,0,0,0,⟨#[]⟩,⟨#[]⟩,⟨#[]⟩⟩) i={ Qc R i with kids:=(Qc R i).kids.filter (λj=>j !=c) })/\Jz last ⟨3,c,0,0,0,⟨#[]⟩,⟨#[]⟩,⟨#[]⟩⟩=last/\(QN R ⟨3,c,0,0,0,⟨#[]⟩,⟨#[]⟩,⟨#[]⟩⟩).length<=R.length:=by
 have f:=b.ids;obtain ⟨k,a,g,h⟩:=QdB f o;obtain ⟨rk,p⟩:=b.up;have l:=Qae p a;have d:QN R ⟨3,c,0,0,0,⟨#[]⟩,⟨#[]⟩,⟨#[]⟩⟩=Jl R (Qo R R.length k 0):=by unfold QN;rw [if_neg (by simp),if_neg (by simp),if_pos (by simp)];show Jl R (Qo R R.length (Qk R c).toNat 0)=_;rw [h,Int.toNat_natCast]
 have m:∀ i,i ∈ Qm R R.length k↔QG (Qc R) c i:=λi=>by have:=QeK f R.length k l i;rw [QV a,g] at this;exact this
 refine ⟨?_,λi=>?_,λi q r=>?_,rfl,?_⟩
 ·unfold canP;rw [if_neg (by simp),if_neg (by simp),if_pos (by simp)];unfold Qcv;have s:(c==1)=false:=Xd5.2 n;simp only [h,s];simp
 ·rw [d,QoQ b a,m]
 ·rw [d,<- g];refine QsC b a q ?_;rw [m];exact r
 rw [d,QgV f l];exact length_filter_le _ _
theorem QhX (c:Qw R last) (a:k<R.length) {n:RN} (b:n.id=R[k].id) (d:n.par=R[k].par) (f:QN R x=R.set k n) : (∀ i,Qr (QN R x) i↔Qr R i)/\(∀ i,Qr R i->i≠R[k].id->Qc (QN R x) i=Qc R i)/\Qc (QN R x) R[k].id=⟨n.key,n.tag,n.text,n.ats,(Qc R R[k].id).kids⟩/\(QN R x).length=R.length:=by rw [f];refine ⟨Qt4 a b,λi h g=>QuH c.ids a b d h g,?_,length_set ..⟩;rw [Qof c.ids a b d,QdR c.ids a]
theorem Qw2 (p:Qw R last) {c:Int} (r:Qr R c) {a:ByteArray} (f:(Qc R c).tag.toList.isEmpty=true) (x:a.size<=20) : canP R last ⟨6,c,0,0,0,⟨#[]⟩,⟨#[]⟩,a⟩=true/\(∀ i,Qr (QN R ⟨6,c,0,0,0,⟨#[]⟩,⟨#[]⟩,a⟩) i↔Qr R i)/\(∀ i,Qr R i->i≠c->Qc (QN R ⟨6,c,0,0,0,⟨#[]⟩,⟨#[]⟩,a⟩) i=Qc R i)/\Qc (QN R ⟨6,c,0,0,0,⟨#[]⟩,⟨#[]⟩,a⟩) c={ Qc R c with text:=a }/\Jz last ⟨6,c,0,0,0,⟨#[]⟩,⟨#[]⟩,a⟩=last/\(QN R ⟨6,c,0,0,0,⟨#[]⟩,⟨#[]⟩,a⟩).length=R.length:=by
 have l:=p.ids;obtain ⟨k,d,g,b⟩:=QdB l r;have h:ZI R ⟨6,c,0,0,0,⟨#[]⟩,⟨#[]⟩,a⟩=R[k]:=QfO d b;have j:Qc R c=⟨R[k].key,R[k].tag,R[k].text,R[k].ats,Qf R R[k].id⟩:=by rw [<- g];exact QdR l d
 have q:QN R ⟨6,c,0,0,0,⟨#[]⟩,⟨#[]⟩,a⟩=R.set k { R[k] with text:=a }:=by unfold QN;rw [if_neg (by simp),if_neg (by simp),if_neg (by simp),if_pos (by simp),h];show R.set (Qk R c).toNat _=_;rw [b,Int.toNat_natCast]
 obtain ⟨s,m,o,t⟩:=QhX p d (n:={ R[k] with text:=a }) rfl rfl q;rw [g] at m o;refine ⟨?_,s,m,?_,rfl,t⟩
 ·unfold canP;rw [if_neg (by simp),if_neg (by simp),if_neg (by simp),if_pos (by simp),h];unfold Qcq;have u:R[k].tag.toList.isEmpty=true:=by rw [j] at f;exact f
  have v:decide ((a.size:Int)<=20)=true:=by simp;omega
  simp only [b,u,v];simp
 rw [o,j]
theorem Qqi (p:Qw R last) {c:Int} (s:Qr R c) {vl:ByteArray} (r:QK nm=true) (f:(Qc R c).tag.toList.isEmpty=false) (z:vl.size<=20) (d:(QI (Qc R c).ats nm).length<(Qc R c).ats.length \/ (Qc R c).ats.length<5) : canP R last ⟨4,c,0,0,0,⟨#[]⟩,nm,vl⟩=true/\(∀ i,Qr (QN R ⟨4,c,0,0,0,⟨#[]⟩,nm,vl⟩) i↔Qr R i)/\(∀ i,Qr R i->i≠c->Qc (QN R ⟨4,c,0,0,0,⟨#[]⟩,nm,vl⟩) i=Qc R i)/\Qc (QN R ⟨4,c,0,0,0,⟨#[]⟩,nm,vl⟩) c={ Qc R c with ats:=QQ (Qc R c).ats nm vl }/\Jz last ⟨4,c,0,0,0,⟨#[]⟩,nm,vl⟩=last/\(QN R ⟨4,c,0,0,0,⟨#[]⟩,nm,vl⟩).length=R.length:=by
 have l:=p.ids;obtain ⟨k,b,g,a⟩:=QdB l s;have h:ZI R ⟨4,c,0,0,0,⟨#[]⟩,nm,vl⟩=R[k]:=QfO b a;have j:Qc R c=⟨R[k].key,R[k].tag,R[k].text,R[k].ats,Qf R R[k].id⟩:=by rw [<- g];exact QdR l b
 have q:QN R ⟨4,c,0,0,0,⟨#[]⟩,nm,vl⟩=R.set k { R[k] with ats:=QQ R[k].ats nm vl }:=by unfold QN;rw [if_neg (by simp),if_neg (by simp),if_neg (by simp),if_neg (by simp),if_pos (by simp),h];show R.set (Qk R c).toNat _=_;rw [a,Int.toNat_natCast]
 obtain ⟨t,m,o,u⟩:=QhX p b (n:={ R[k] with ats:=QQ R[k].ats nm vl }) rfl rfl q;rw [g] at m o;refine ⟨?_,t,m,?_,rfl,u⟩
 ·unfold canP;rw [if_neg (by simp),if_neg (by simp),if_neg (by simp),if_neg (by simp),if_pos (by simp),h];unfold Qbv Qcb;rw [j] at f d;have v:R[k].tag.toList.isEmpty=false:=f;have x:decide ((vl.size:Int)<=20)=true:=by simp;omega
  have y:(decide ((QI R[k].ats nm).length<R[k].ats.length)||decide (R[k].ats.length<5))=true:=by simpa using d
  simp only [a,v,x,r,y];simp
 rw [o,j]
theorem QwV (r:Qw R last) {c:Int} (u:Qr R c) (t:QK nm=true) (d:(Qc R c).tag.toList.isEmpty=false) (f:(QI (Qc R c).ats nm).length<(Qc R c).ats.length) :
  canP R last ⟨5,c,0,0,0,⟨#[]⟩,nm,⟨#[]⟩⟩=true/\(∀ i,Qr (QN R ⟨5,c,0,0,0,⟨#[]⟩,nm,⟨#[]⟩⟩) i↔Qr R i)/\(∀ i,Qr R i->i≠c->Qc (QN R ⟨5,c,0,0,0,⟨#[]⟩,nm,⟨#[]⟩⟩) i=Qc R i)/\Qc (QN R ⟨5,c,0,0,0,⟨#[]⟩,nm,⟨#[]⟩⟩) c={ Qc R c with ats:=QI (Qc R c).ats nm }/\Jz last ⟨5,c,0,0,0,⟨#[]⟩,nm,⟨#[]⟩⟩=last/\(QN R ⟨5,c,0,0,0,⟨#[]⟩,nm,⟨#[]⟩⟩).length=R.length:=by
 have m:=r.ids
 obtain ⟨k,b,g,a⟩:=QdB m u
 have h:ZI R ⟨5,c,0,0,0,⟨#[]⟩,nm,⟨#[]⟩⟩=R[k]:=QfO b a
 have j:Qc R c=⟨R[k].key,R[k].tag,R[k].text,R[k].ats,Qf R R[k].id⟩:=by rw [<- g];exact QdR m b
 have s:QN R ⟨5,c,0,0,0,⟨#[]⟩,nm,⟨#[]⟩⟩=R.set k { R[k] with ats:=QI R[k].ats nm }:=by
  unfold QN
  rw [if_neg (by simp),if_neg (by simp),if_neg (by simp),if_neg (by simp),if_neg (by simp),h]
  show R.set (Qk R c).toNat _=_
  rw [a,Int.toNat_natCast]
 obtain ⟨v,o,p,y⟩:=QhX r b (n:={ R[k] with ats:=QI R[k].ats nm }) rfl rfl s
 rw [g] at o p
 refine ⟨?_,v,o,?_,rfl,y⟩
 ·unfold canP
  rw [if_neg (by simp),if_neg (by simp),if_neg (by simp),if_neg (by simp),if_neg (by simp),if_pos (by simp),h]
  unfold QbY Qcb
  rw [j] at d f
  have z:R[k].tag.toList.isEmpty=false:=d
  have A:decide ((QI R[k].ats nm).length<R[k].ats.length)=true:=by simpa using f
  simp only [a,z,t,A]
  simp
  decide
 ·rw [p,j]
inductive ZQ:List RN->Int->List Qh->List RN->Int->Prop
 | nil (R:List RN) (l:Int):ZQ R l [] R l
 | cons {R R':List RN} {l q:Int} {x:Qh} {P:List Qh}:canP R l x=true->ZQ (QN R x) (Jz l x) P R' q->ZQ R l (x::P) R' q
theorem ZQ.app {l:Int} {a:List Qh} (c:ZQ R l P R1 l1) (k:ZQ R1 l1 a R2 l2):ZQ R l (P++a) R2 l2:=by induction c with| nil=>exact k| cons b _ ih=>exact .cons b (ih k)
theorem ZQ.one {l:Int} (a:canP R l x=true):ZQ R l [x] (QN R x) (Jz l x):=.cons a (.nil ..)
theorem ZQ.ok {l b:Int} (f:ZQ R l P R' b) (a:Qw R l) (c:Zw R):Qw R' b/\Zw R':=by induction f with| nil=>exact ⟨a,c⟩| cons d _ ih=>exact ih (a.did d) (c.did a.ids d)
theorem QdM {α:Type} {lt:α->α->Prop} (d:∀ a,¬ lt a a) (g:∀ a b c,lt a b->lt b c->lt a c):∀ (m l:List α),l.Pairwise lt->m.Pairwise lt->(∀ a,a ∈ l->a ∈ m)->l.Sublist m
 | [],l,_,_,h=>by cases l with| nil=>exact .slnil| cons a l=>exact absurd (h a (mem_cons_self ..)) (by simp)
 | b::m,[],_,_,_=>nil_sublist _
 | b::m,a::l,hl,hm,h=>by
  obtain ⟨k,p⟩:=pairwise_cons.1 hl;obtain ⟨q,n⟩:=pairwise_cons.1 hm;rcases mem_cons.1 (h a (mem_cons_self ..)) with e|e
  ·subst e;refine .cons_cons _ (QdM d g m l p n λx f=>?_);rcases mem_cons.1 (h x (Xa8 _ f)) with e|e
   ·subst e;exact absurd (k _ f) (d _)
   exact e
  refine .cons _ (QdM d g m (a::l) hl n λx f=>?_);rcases mem_cons.1 (h x f) with i|i
  ·subst i;have o:=q a e;rcases mem_cons.1 f with j|j
   ·subst j;exact absurd o (d _)
   exact absurd (g _ _ _ o (k _ j)) (d _)
  exact i
theorem Qdv (a:ByteArray):¬ Zi a a=true:=by unfold Zi;rw [Qmi];simp
theorem Qij (a b c:ByteArray) (d:Zi a b=true) (k:Zi b c=true):Zi a c=true:=Qe6 _ _ _ d k
theorem QvO {m:List (ByteArray × ByteArray)} (f:ZM l) (g:ZM m) (h:∀ a,a ∈ l↔a ∈ m):l=m:=by have i:=QdM (lt:=λx d:ByteArray × ByteArray=>Zi x.1 d.1=true) (λa=>Qdv a.1) (λa b c=>Qij a.1 b.1 c.1) m l f g λa=>(h a).1;have j:=QdM (lt:=λx d:ByteArray × ByteArray=>Zi x.1 d.1=true) (λa=>Qdv a.1) (λa b c=>Qij a.1 b.1 c.1) l m g f λa=>(h a).2;exact i.eq_of_length_le j.length_le
theorem Qh3 (d:ZM l) {a b:ByteArray × ByteArray} (h:a ∈ l) (k:b ∈ l) (e:a.1=b.1):a=b:=by
 obtain ⟨i,f,rfl⟩:=Xa3 h;obtain ⟨j,g,rfl⟩:=Xa3 k;rcases Nat.lt_trichotomy i j with c|c|c
 ·have:=Xb1.1 d i j f g c;rw [e] at this;exact absurd this (Qdv _)
 ·subst c;rfl
 have:=Xb1.1 d j i g f c;rw [e] at this;exact absurd this (Qdv _)
theorem Qlf (c:ZM l):(l.map (·.1)).Pairwise (λa b=>Zi a b=true):=pairwise_map.2 c
theorem Qsr {m:List (ByteArray × ByteArray)} (j:ZM l) (k:ZM m) (s:∀ a,a ∈ l->∃ b,b ∈ m/\b.1=a.1) {c:ByteArray × ByteArray} (n:c ∈ m) (i:∀ a,a ∈ l->a.1≠c.1):l.length<m.length:=by
 have g:=QdM Qdv Qij (m.map (·.1)) (l.map (·.1)) (Qlf j) (Qlf k) (λx o=>by obtain ⟨a,d,rfl⟩:=Xa5.1 o;obtain ⟨b,p,e⟩:=s a d;exact Xa5.2 ⟨b,p,e⟩);have q:=g.length_le;rw [length_map,length_map] at q;rcases Nat.lt_or_ge l.length m.length with f|f
 ·exact f
 exfalso;have r:=g.eq_of_length_le (by rw [length_map,length_map];exact f);have h:c.1 ∈ m.map (·.1):=Xa5.2 ⟨c,n,rfl⟩;rw [<- r] at h;obtain ⟨a,d,e⟩:=Xa5.1 h;exact i a d e
theorem Qsq (d:ZM l) {vl:ByteArray} (a:ByteArray × ByteArray):a ∈ QQ l nm vl↔a=(nm,vl) \/ (a ∈ l/\a.1≠nm):=by
 have f:(nm,vl) ∈ QQ l nm vl:=by rw [QfM d];simp
 constructor
 ·intro g;by_cases e:a.1=nm
  ·exact .inl (Qh3 (Qgg d) g f e)
  rcases Qgu g with c|c
  ·exact .inr ⟨c,e⟩
  exact .inl c
 rintro (rfl|⟨c,h⟩)
 ·exact f
 obtain ⟨i,k,rfl⟩:=Xa3 c;rw [QfM d];by_cases m:i<QB l nm
 ·refine mem_append_left _ (mem_append_left _ ?_);rw [mem_take_iff_getElem];exact ⟨i,by omega,rfl⟩
 refine mem_append_right _ ?_;rw [mem_drop_iff_getElem];unfold Qap;by_cases b:Zu l nm=true
 ·rw [if_pos b];have j:i≠QB l nm:=λe=>by unfold Zu at b;simp only [Bool.and_eq_true,decide_eq_true_eq] at b;rw [Qcg b.1] at b;have:=Qjx b.2;subst e;exact h this
  exact ⟨i-(QB l nm+1),by omega,by congr 1;omega⟩
 rw [if_neg b];exact ⟨i-QB l nm,by omega,by congr 1;omega⟩
theorem Qnn (a:ByteArray × ByteArray):a ∈ QI l nm↔a ∈ l/\a.1≠nm:=by
 unfold QI;rw [mem_filter];constructor
 ·rintro ⟨c,b⟩;refine ⟨c,λe=>?_⟩;rw [e] at b;simp [ZL] at b
 rintro ⟨c,b⟩;refine ⟨c,?_⟩;cases e:ZL a.1 nm with| false=>rfl| true=>exact absurd (Qjx e) b
theorem QjD {a:ByteArray × ByteArray} (c:a ∈ l) (e:a.1=nm):(QI l nm).length<l.length:=by
 rcases Nat.lt_or_ge (QI l nm).length l.length with b|b
 ·exact b
 exfalso;have d:(QI l nm).Sublist l:=filter_sublist;have f:=d.eq_of_length_le b;rw [<- f] at c;exact ((Qnn a).1 c).2 e
structure QcN (R R':List RN) (c:Int) (y:NI):Prop where
 has:∀ i,Qr R' i↔Qr R i
 rest:∀ i,Qr R i->i≠c->Qc R' i=Qc R i
 at':Qc R' c=y
 len:R'.length=R.length
theorem QcN.refl {c:Int} (a:Qc R c=y):QcN R R c y:=⟨λ_=>Iff.rfl,λ_ _ _=>rfl,a,rfl⟩
theorem QcN.trans {R b d:List RN} {c:Int} {j h:NI} (a:QcN R b c j) (k:QcN b d c h):QcN R d c h := ⟨λi=>(k.has i).trans (a.has i),λi f g=>(k.rest i ((a.has i).2 f) g).trans (a.rest i f g),k.at',k.len.trans a.len⟩
theorem Qfn (a:j<l.length):QP l j=l[j].1/\Q6 l j=l[j].2:=by unfold QP Q6;rw [Xg a];exact ⟨rfl,rfl⟩
theorem Qq9 {nm:Nat->ByteArray} {x:ByteArray}:JL nm x k=true↔∃ j,j<k/\nm j=x:=by
 unfold JL;rw [any_eq_true];constructor
 ·rintro ⟨j,a,e⟩;exact ⟨j,Xa6.1 a,Qea (by simpa using e)⟩
 rintro ⟨j,a,rfl⟩;exact ⟨j,Xa6.2 a,by simp⟩
theorem Qom {x g:ByteArray}:JN (QP l) (Q6 l) x g l.length=true↔(x,g) ∈ l:=by
 unfold JN;rw [any_eq_true];constructor
 ·rintro ⟨j,a,e⟩;have a:=Xa6.1 a;obtain ⟨b,c⟩:=Qfn a;simp only [Bool.and_eq_true,beq_iff_eq] at e;have d:=Qea e.1;have f:=Qea e.2;rw [b] at d;rw [c] at f;rw [d,f];exact Xa0 a
 intro h;obtain ⟨j,a,e⟩:=Xa3 h;obtain ⟨b,c⟩:=Qfn a;refine ⟨j,Xa6.2 a,?_⟩;rw [b,c,e];simp
theorem QiS {m:Qd} (a:ByteArray × ByteArray):a ∈ Zc m↔∃ j,j<m.an/\a=(m.nm j,m.vl j):=by
 constructor
 ·exact Qjp
 rintro ⟨j,b,rfl⟩;unfold Zc;exact Xa5.2 ⟨j,Xa6.2 b,rfl⟩
structure Qe3 (ln:Qd):Prop where
 rise:ZM (Zc ln)
 few:ln.an<=5
 name:∀ j,j<ln.an->QK (ln.nm j)=true/\(ln.vl j).size<=20
theorem Qe3.inj (f:Qe3 ln) (b:i<ln.an) (c:j<ln.an) (e:ln.nm i=ln.nm j):i=j:=by
 have d:=f.rise;rcases Nat.lt_trichotomy i j with a|a|a
 ·have:=Xb1.1 d i j (by rw [Qba];exact b) (by rw [Qba];exact c) a;simp only [Zc,getElem_map,getElem_range] at this;rw [e] at this;exact absurd this (Qdv _)
 ·exact a
 have:=Xb1.1 d j i (by rw [Qba];exact c) (by rw [Qba];exact b) a;simp only [Zc,getElem_map,getElem_range] at this;rw [e] at this;exact absurd this (Qdv _)
theorem QmT {R:List RN} {last:Int} (g:Qw R last) (q:Zw R) {c:Int} (r:Qr R c) {x:NI} (s:Qc R c=x) (y:x.tag.toList.isEmpty=false) (m:ZM x.ats) (l:Nat->ByteArray) (o:Nat) : ∀ k,k<=x.ats.length->∃ R' A,ZQ R last (Qav c (QP x.ats) l o k) R' last/\QcN R R' c { x with ats:=A }/\ZM A/\∀ a,a ∈ A↔a ∈ x.ats/\∀ j,j<k->QP x.ats j=a.1->JL l a.1 o=true
 | 0,_=>⟨R,x.ats,.nil ..,.refl s,m,λa=>⟨λg=>⟨g,λj d=>absurd d (Xb7 _)⟩,λg=>g.1⟩⟩
 | k+1,hk=>by
  obtain ⟨R',A,t,h,B,u⟩:=QmT g q r s y m l o k (by omega);have i:k<x.ats.length:=by omega
  have C:=(Qfn i).1;cases p:JL l (QP x.ats k) o with
  | true =>
   refine ⟨R',A,by rw [QgN p];exact t,h,B,λa=>?_⟩;rw [u];refine ⟨λ⟨f,b⟩=>⟨f,λj d e=>?_⟩,λ⟨f,b⟩=>⟨f,λj d=>b j (by omega)⟩⟩;by_cases v:j=k
   ·subst v;rw [<- e];exact p
   exact b j (by omega) e
  | false =>
   obtain ⟨J,U⟩:=t.ok g q;have K:=(h.has c).2 r;have I:x.ats[k] ∈ A:=(u _).2 ⟨Xa0 i,λj d e=>by have:=Qh3 m (Xa0 (show j<x.ats.length by omega)) (Xa0 i) (by rw [<- (Qfn (show j<x.ats.length by omega)).1];exact e);have z:=Xb1.1 m j k (by omega) i d;rw [this] at z;exact absurd z (Qdv _)⟩;have H:QK (QP x.ats k)=true:=by
    obtain ⟨n,D,e⟩:=r;have E:=JC g.ids D;rw [e,s] at E;have:x.ats[k] ∈ n.ats:=by
     have L:x.ats=n.ats:=by rw [E]
     rw [<- L];exact Xa0 i
    rw [C];exact (q n D _ this).1
   obtain ⟨M,N,O,F,P,S⟩:=QwV J K H (by rw [h.at'];exact y) (by rw [h.at'];exact QjD I C.symm);rw [h.at'] at F;refine ⟨_,QI A (QP x.ats k),by rw [QgU p];exact t.app (by have G:=ZQ.one M;rw [P] at G;exact G),h.trans ⟨N,O,F,S⟩,Qlr B,λa=>?_⟩;rw [Qnn,u];refine ⟨λ⟨⟨f,b⟩,T⟩=>⟨f,λj d e=>?_⟩,λ⟨f,b⟩=>⟨⟨f,λj d=>b j (by omega)⟩,λe=>?_⟩⟩
   ·by_cases v:j=k
    ·subst v;exact absurd e.symm T
    exact b j (by omega) e
   have:=b k (by omega) e.symm;rw [e,p] at this;cases this
theorem Qlq {R:List RN} {last:Int} (K:Qw R last) (C:Zw R) {c:Int} (D:Qr R c) {o:NI} (E:Qc R c=o) (y:o.tag.toList.isEmpty=false) {l:List (ByteArray × ByteArray)} (z:ZM l) {f:Qd} (p:Qe3 f) (F:ZM o.ats) (G:∀ a,a ∈ o.ats↔a ∈ l/\JL f.nm a.1 f.an=true) : ∀ k,k<=f.an->∃ R' A,ZQ R last (QaX c (QP l) (Q6 l) l.length f.nm f.vl k) R' last/\QcN R R' c { o with ats:=A }/\ZM A/\∀ a,a ∈ A↔∃ j,j<f.an/\a.1=f.nm j/\((j<k/\a.2=f.vl j) \/ (k<=j/\a ∈ l))
 | 0,_=>⟨R,o.ats,.nil ..,.refl E,F,λa=>by
  rw [G,Qq9];constructor
  ·rintro ⟨i,j,h,e⟩;exact ⟨j,h,e.symm,.inr ⟨X3,i⟩⟩
  rintro ⟨j,h,e,⟨g,_⟩|⟨_,g⟩⟩
  ·omega
  exact ⟨g,j,h,e.symm⟩⟩
 | k+1,hk=>by
  obtain ⟨R',A,t,n,r,u⟩:=Qlq K C D E y z p F G k (by omega);have q:k<f.an:=by omega
  cases v:JN (QP l) (Q6 l) (f.nm k) (f.vl k) l.length with
  | true =>
   have B:=Qom.1 v;refine ⟨R',A,by rw [Qgo v];exact t,n,r,λa=>?_⟩;rw [u];constructor
   ·rintro ⟨j,h,e,⟨i,d⟩|⟨i,d⟩⟩
    ·exact ⟨j,h,e,.inl ⟨by omega,d⟩⟩
    by_cases m:j=k
    ·subst m;have:=Qh3 z d B e;exact ⟨j,h,e,.inl ⟨by omega,by rw [this]⟩⟩
    exact ⟨j,h,e,.inr ⟨by omega,d⟩⟩
   rintro ⟨j,h,e,⟨i,d⟩|⟨i,d⟩⟩
   ·by_cases m:j=k
    ·subst m;refine ⟨j,h,e,.inr ⟨X0,?_⟩⟩;obtain ⟨T,U⟩:=a;simp only at e d;subst e d;exact B
    exact ⟨j,h,e,.inl ⟨by omega,d⟩⟩
   exact ⟨j,h,e,.inr ⟨by omega,d⟩⟩
  | false =>
   obtain ⟨M,a2⟩:=t.ok K C;have N:=(n.has c).2 D;obtain ⟨O,P⟩:=p.name k q;have L:(QI A (f.nm k)).length<A.length \/ A.length<5:=by
    by_cases H:∃ b,b ∈ A/\b.1=f.nm k
    ·obtain ⟨b,V,e⟩:=H;exact .inl (QjD V e)
    right;have:=Qsr r p.rise (λa x=>by obtain ⟨j,h,e,_⟩:=(u a).1 x;exact ⟨(f.nm j,f.vl j),(QiS _).2 ⟨j,h,rfl⟩,e.symm⟩) (c:=(f.nm k,f.vl k)) ((QiS _).2 ⟨k,q,rfl⟩) (λa x e=>H ⟨a,x,e⟩);rw [Qba] at this;have:=p.few;omega
   obtain ⟨W,X,Y,I,a0,a1⟩:=Qqi M N O (by rw [n.at'];exact y) P (by rw [n.at'];exact L);rw [n.at'] at I;refine ⟨_,QQ A (f.nm k) (f.vl k),by rw [QgE v];exact t.app (by have J:=ZQ.one W;rw [a0] at J;exact J),n.trans ⟨X,Y,I,a1⟩,Qgg r,λa=>?_⟩;rw [Qsq r,u];constructor
   ·rintro (rfl|⟨⟨j,h,e,g⟩,S⟩)
    ·exact ⟨k,q,rfl,.inl ⟨by omega,rfl⟩⟩
    have s:j≠k:=λm=>by subst m;exact S e
    rcases g with ⟨i,d⟩|⟨i,d⟩
    ·exact ⟨j,h,e,.inl ⟨by omega,d⟩⟩
    exact ⟨j,h,e,.inr ⟨by omega,d⟩⟩
   rintro ⟨j,h,e,g⟩;by_cases s:j=k
   ·subst s;rcases g with ⟨i,d⟩|⟨i,d⟩
    ·left;obtain ⟨T,U⟩:=a;simp only at e d;rw [e,d]
    omega
   right;refine ⟨⟨j,h,e,?_⟩,λm=>s (p.inj h q (by rw [<- e];exact m))⟩;rcases g with ⟨i,d⟩|⟨i,d⟩
   ·exact .inl ⟨by omega,d⟩
   exact .inr ⟨by omega,d⟩
theorem Qt2 (p:Qw R last) (k:Zw R) {c:Int} (l:Qr R c) {x:NI} (s:Qc R c=x) (i:x.tag.toList.isEmpty=false) (m:ZM x.ats) (n:Qe3 ln) : ∃ R',ZQ R last (JR c x ln) R' last/\QcN R R' c { x with ats:=Zc ln }:=by
 obtain ⟨F,A,o,f,t,u⟩:=QmT p k l s i m ln.nm ln.an x.ats.length X0;obtain ⟨q,r⟩:=o.ok p k;have v:∀ a,a ∈ A↔a ∈ x.ats/\JL ln.nm a.1 ln.an=true:=λa=>by rw [u];refine ⟨λ⟨d,h⟩=>⟨d,?_⟩,λ⟨d,h⟩=>⟨d,λ_ _ _=>h⟩⟩;obtain ⟨j,b,rfl⟩:=Xa3 d;exact h j b (Qfn b).1
 obtain ⟨y,B,z,C,D,E⟩:=Qlq q r ((f.has c).2 l) f.at' i m n t v ln.an X0;have e:B=Zc ln:=QvO D n.rise λa=>by
  rw [E,QiS];constructor
  ·rintro ⟨j,b,e,⟨_,g⟩|⟨g,_⟩⟩
   ·refine ⟨j,b,?_⟩;obtain ⟨G,H⟩:=a;simp only at e g;rw [e,g]
   omega
  rintro ⟨j,b,rfl⟩;exact ⟨j,b,rfl,.inl ⟨b,rfl⟩⟩
 subst e;refine ⟨y,?_,f.trans C⟩;unfold JR;exact o.app z
theorem QG.trans {i j k:Int} (c:QG T i j) (a:QG T j k):QG T i k:=by induction c with| self=>exact a| step b _ ih=>exact .step b (ih a)
theorem QG.snoc {i j k:Int} (b:QG T i j) (a:k ∈ (T j).kids):QG T i k:=b.trans (.step a (.self _))
theorem QG.zlast {i j:Int} (d:QG T i j):j=i \/ ∃ p,QG T i p/\j ∈ (T p).kids:=by
 induction d with
 | self=>exact .inl rfl
 | @step i k j a f ih =>
  rcases ih with e|⟨p,b,c⟩
  ·subst e;exact .inr ⟨i,.self _,a⟩
  exact .inr ⟨p,.step a b,c⟩
theorem QG.keep {i j:Int} (d:QG T i j) (a:∀ p,QG T i p->T' p=T p):QG T' i j:=by induction d with| self=>exact .self _| @step i k j b _ ih =>refine .step (k:=k) (by rw [a i (.self _)];exact b) (ih λp c=>a p (.step b c))
theorem QG.back {i j:Int} (f:QG T' i j) (a:∀ p,QG T i p->T' p=T p):QG T i j:=by
 induction f with
 | self=>exact .self _
 | @step i k j c _ ih =>
  have b:k ∈ (T i).kids:=by rw [<- a i (.self _)];exact c
  exact .step b (ih λp d=>a p (.step b d))
theorem Qfh (b:Qx R) {i k:Int} (c:Qr R i) (a:k ∈ (Qc R i).kids):∃ n,n ∈ R/\n.par=i/\n.id=k:=by rw [QdS b c] at a;exact Qbb.1 a
theorem Qai (a:Qx R) {i k:Int} (b:Qr R i) (c:k ∈ (Qc R i).kids):Qr R k:=by obtain ⟨n,d,_,e⟩:=Qfh a b c;exact ⟨n,d,e⟩
theorem Qg2 (a:Qx R) {i b k:Int} (f:Qr R i) (c:Qr R b) (g:k ∈ (Qc R i).kids) (d:k ∈ (Qc R b).kids):i=b:=by obtain ⟨n,h,j,l⟩:=Qfh a f g;obtain ⟨m,o,p,q⟩:=Qfh a c d;have:=QhF a h o (by rw [l,q]);rw [<- j,<- p,this]
theorem QbR (b:Qx R) {i j:Int} (a:Qr R i) (d:QG (Qc R) i j):Qr R j:=by induction d with| self=>exact a| step c _ ih=>exact ih (Qai b a c)
theorem Qg4 (a:Qx R) (c:Up R rk) {i k:Int} (b:Qr R i) (d:k ∈ (Qc R i).kids):rk i<rk k:=by obtain ⟨n,f,g,h⟩:=Qfh a b d;have j:=Qb8 a b;have:=c.rank n f (by omega);rw [g,h] at this;exact this
theorem Qna (a:Qx R) (d:Up R rk) {i j:Int} (b:Qr R i) (f:QG (Qc R) i j):rk i<=rk j:=by induction f with| self=>exact X0| step c _ ih =>have:=Qg4 a d b c;have:=ih (Qai a b c);omega
theorem QnI {R:List RN} {rk:Int->Nat} (a:Qx R) (f:Up R rk) {i b:Int} (g:Qr R i) (c:Qr R b):∀ (r:Nat) (j:Int),rk j<=r->QG (Qc R) i j->QG (Qc R) b j->QG (Qc R) i b \/ QG (Qc R) b i
 | r,j,hr,h,h'=>by
  rcases h.zlast with e|⟨p,k,l⟩
  ·subst e;exact .inr h'
  ·rcases h'.zlast with e|⟨s,d,n⟩
   ·subst e;exact .inl h
   ·have m:=QbR a g k
    have o:=QbR a c d
    have e:=Qg2 a m o l n
    subst e
    have q:=Qg4 a f m l
    match r with
    | 0=>omega
    | r+1=>exact QnI a f g c r p (by omega) k d
theorem QiI (r:Qw R last) {i c f j:Int} (g:Qr R i) (k:c ∈ (Qc R i).kids) (h:f ∈ (Qc R i).kids) (m:c≠f) (u:QG (Qc R) c j) (v:QG (Qc R) f j):False:=by
 obtain ⟨rk,l⟩:=r.up;have d:=r.ids;have key:∀ a b,a ∈ (Qc R i).kids->b ∈ (Qc R i).kids->a≠b->QG (Qc R) a b->False:=λa b n x s y=>by
  have o:=Qai d g n;rcases y.zlast with e|⟨p,q,t⟩
  ·exact s e.symm
  have e:=Qg2 d (QbR d o q) g t x;subst e;have:=Qna d l o q;have:=Qg4 d l g n;omega
 rcases QnI d l (Qai d g k) (Qai d g h) (rk j) j X0 u v with e|e
 ·exact key c f k h m e
 exact key f c h k (λe=>m e.symm) e
theorem Qc3 (a:Qw R last) {i c:Int} (b:Qr R i) (d:c ∈ (Qc R i).kids):¬ QG (Qc R) c i:=λg=>by obtain ⟨rk,f⟩:=a.up;have:=Qna a.ids f (Qai a.ids b d) g;have:=Qg4 a.ids f b d;omega
theorem QjK {R:List RN} {last:Int} (d:Qw R last) {c:Int} (f:c≠0):∀ (m:Nat) (x:Int),Qr R x->ZC R m x=c->QG (Qc R) c x
 | 0,x,_,e=>by have e:x=c:=e;subst e;exact .self _
 | m+1,x,hx,e=>by
  have a:=d.ids;obtain ⟨rk,l⟩:=d.up;have r:=Qb8 a hx;obtain ⟨k,b,h,i⟩:=QdB a hx;have n:upP R x=R[k].par:=by unfold upP Qb9;rw [if_neg (by omega),i,Int.toNat_natCast,Qbs b]
  rw [ZC,n] at e;rcases l.par R[k] (Xa0 b) with o|⟨p,q,j⟩
  ·rw [o,Qfq] at e;exact absurd e.symm f
  have g:Qr R R[k].par:=⟨p,q,j⟩;refine (QjK d f m R[k].par g e).snoc ?_;rw [QdS a g];exact Qbb.2 ⟨R[k],Xa0 b,rfl,h⟩
theorem Qlk (a:Qw R last) {i c:Int} (b:Qr R i) (d:Qr R c) (f:¬ QG (Qc R) c i):¬ Qbi R i c:=by rintro ⟨m,e⟩;exact f (QjK a (by have:=Qb8 a.ids d;omega) m i b e)
def J4:List (Nat × Nat)->Nat->Nat->Prop
 | [],a,b=>a=b
 | p::l,a,b=>p.1=a/\p.1<p.2/\J4 l p.2 b
theorem J4.snoc:∀ {l:List (Nat × Nat)} {a b c:Nat},J4 l a b->b<c->J4 (l++[(b,c)]) a c| [],a,b,c,h,hb=>by have e:a=b:=h;subst e;exact ⟨rfl,hb,rfl⟩| p::l,a,b,c,⟨h1,h2,h3⟩,hb=>⟨h1,h2,J4.snoc h3 hb⟩
theorem QjX (D:Nat->Int) (n:Nat):∀ k,J4 (Zo D n k).1 1 (Zo D n k).2| 0=>rfl| k+1=>by have ih:=QjX D n k;have b:=Qed D n k;cases a:Qaw D n (k+2) with| true=>rw [Qc7 a];exact ih.snoc (by omega)| false=>rw [Qd1 a];exact ih
theorem QdE (D:Nat->Int) (b:1<=n):J4 (JD D n) 1 n:=by
 have a:=QjX D n (n-1);unfold JD
 have e:(Zo D n (n-1)).2=n:=by
  match n,b with
  | 1,_=>rfl
  | k+2,_ =>
   have c:Qaw D (k+2) (k+2)=true:=by unfold Qaw;simp
   show (Zo D (k+2) (k+1)).2=k+2
   rw [Qc7 c]
 rw [e] at a;exact a
theorem Qmf (D:Nat->Int) (n:Nat) (f:2<=n->D 1=D 0+1):∀ k,k+1<=n->(∀ p,p ∈ (Zo D n k).1->D p.1=D 0+1/\∀ i,p.1<i->i<p.2->D i≠D 0+1)/\((Zo D n k).2<n->D (Zo D n k).2=D 0+1)/\∀ i,(Zo D n k).2<i->i<=k+1->i<n->D i≠D 0+1
 | 0,hk=>⟨λp c=>by simp [Zo] at c,λa=>f (by simp [Zo] at a;omega),λi b d=>by simp [Zo] at b;omega⟩
 | k+1,hk=>by
  obtain ⟨g,h,j⟩:=Qmf D n f k (by omega);have o:=Qed D n k;cases a:Qaw D n (k+2) with
  | true =>
   rw [Qc7 a];refine ⟨λp c=>?_,λl=>?_,λi b d=>by simp only at b;omega⟩
   ·rcases Xa4.1 c with c|c
    ·exact g p c
    have e:=Xa2.1 c;subst e;refine ⟨h (by omega),λi b d=>j i b (by simp only at d;omega) (by simp only at d;omega)⟩
   unfold Qaw at a;simp only [Bool.or_eq_true,beq_iff_eq] at a;exact a.resolve_left (by simp only at l;omega)
  | false =>
   rw [Qd1 a];refine ⟨g,h,λi b d m=>?_⟩;by_cases e:i=k+2
   ·subst e;unfold Qaw at a;simp only [Bool.or_eq_false_iff,beq_eq_false_iff_ne] at a;exact a.2
   exact j i b (by omega) m
theorem Qhj {D:Nat->Int} (c:1<=n) (a:2<=n->D 1=D 0+1) {p:Nat × Nat} (b:p ∈ JD D n):D p.1=D 0+1/\∀ i,p.1<i->i<p.2->D i≠D 0+1:=(Qmf D n a (n-1) (by omega)).1 p b
structure Jd (L:Nat->Qd) (s n:Nat):Prop where
 pos:1<=n
 deep:∀ i,0<i->i<n->(L s).d<(L (s+i)).d
 step:∀ i,i+1<n->(L (s+i+1)).d<=(L (s+i)).d+1
 node:∀ i,i<n->Ze (L (s+i))=true \/ Zx (L (s+i))=true
 par:∀ i,i+1<n->(L (s+i)).d<(L (s+i+1)).d->Ze (L (s+i))=true
theorem Jd.part (b:Jd L s n) {a:Nat × Nat} (f:a ∈ Qe L s n):Jd L (s+a.1) (a.2-a.1)/\(1<=a.1/\a.1<a.2/\a.2<=n)/\Ze (L s)=true:=by
 obtain ⟨m,o,p⟩:=Qce b.pos f;have k:2<=n->(L (s+1)).d=(L (s+0)).d+1:=λu=>by have c:=b.deep 1 (by omega) (by omega);have g:=b.step 0 (by omega);simp only [Nat.add_zero] at g ⊢;omega
 obtain ⟨q,h⟩:=Qhj b.pos k f;rw [Nat.add_zero] at q h;refine ⟨⟨by omega,λi r t=>?_,λi j=>?_,λi j=>?_,λi j l=>?_⟩,⟨m,o,p⟩,?_⟩
 ·have c:=h (a.1+i) (by omega) (by omega);have g:=b.deep (a.1+i) (by omega) (by omega);rw [Nat.add_assoc];omega
 ·have:=b.step (a.1+i) (by omega);rw [show s+(a.1+i)=s+a.1+i by omega] at this;exact this
 ·have:=b.node (a.1+i) (by omega);rw [<- Nat.add_assoc] at this;exact this
 ·have:=b.par (a.1+i) (by omega);rw [show s+(a.1+i)=s+a.1+i by omega] at this;exact this l
 have c:=b.deep 1 (by omega) (by omega);have:=b.par 0 (by omega);rw [Nat.add_zero] at this;exact this c
def QaO (R:List RN) (L:Nat->Qd):Nat->Int->Nat->Nat->Prop
 | 0,_,_,_=>False
 | f+1,id,s,n=>Qr R id/\(Qc R id).tag=(L s).t/\(Qc R id).key=(L s).k/\(Qc R id).text=(L s).x/\(Qc R id).ats=Zc (L s)/\(Qc R id).kids.length=(Qe L s n).length/\∀ k,k<(Qe L s n).length->QaO R L f ((Qc R id).kids.getD k 0) (s+((Qe L s n).getD k (0,0)).1) (((Qe L s n).getD k (0,0)).2-((Qe L s n).getD k (0,0)).1)
theorem QaO.keep {R R':List RN} {L:Nat->Qd}:∀ {f:Nat} {id:Int} {s n:Nat},QaO R L f id s n->(∀ j,QG (Qc R) id j->Qr R' j/\Qc R' j=Qc R j)->QaO R' L f id s n| 0,_,_,_,h,_=>h| f+1,id,s,n,⟨h1,h2,h3,h4,h5,h6,h7⟩,hk=>by obtain ⟨b,c⟩:=hk id (.self _);unfold QaO;rw [c];refine ⟨b,h2,h3,h4,h5,h6,λk a=>(h7 k a).keep λj d=>hk j (.step ?_ d)⟩;rw [Xg (by omega)];exact Xa0 _
theorem QaO.more {R:List RN} {L:Nat->Qd}:∀ {f g:Nat} {id:Int} {s n:Nat},QaO R L f id s n->f<=g->QaO R L g id s n| 0,_,_,_,_,h,_=>h.elim| f+1,0,_,_,_,_,hg=>by omega| f+1,g+1,id,s,n,⟨h1,h2,h3,h4,h5,h6,h7⟩,hg=>⟨h1,h2,h3,h4,h5,h6,λk a=>(h7 k a).more (by omega)⟩
def QcT (R:List RN) (T:Int->NI) (L:Nat->Qd):Nat->Int->List Int->Nat->Nat->Prop
 | 0,_,_,_,_=>True
 | f+1,id,ks,s,n=>∀ k,k<(Qe L s n).length->(QE T L ks s (Qe L s n)).getD k 0≠-1->(Qc R id).kids.getD k 0=ks.getD ((QE T L ks s (Qe L s n)).getD k 0).toNat 0/\(Qc R id).kids.getD k 0 ∈ (Qc R id).kids/\QcT R T L f ((Qc R id).kids.getD k 0) (T ((Qc R id).kids.getD k 0)).kids (s+((Qe L s n).getD k (0,0)).1) (((Qe L s n).getD k (0,0)).2-((Qe L s n).getD k (0,0)).1)
theorem QcT.keep {R R':List RN} {T:Int->NI} {L:Nat->Qd}:∀ {f:Nat} {id:Int} {ks:List Int} {s n:Nat},QcT R T L f id ks s n->(∀ j,QG (Qc R) id j->Qc R' j=Qc R j)->QcT R' T L f id ks s n| 0,_,_,_,_,_,_=>trivial| f+1,id,ks,s,n,h,hk=>λk b c=>by obtain ⟨d,a,g⟩:=h k b c;rw [hk id (.self _)];exact ⟨d,a,g.keep λj i=>hk j (.step a i)⟩
structure QcH (x:NI):Prop where
 rise:ZM x.ats
 text:x.tag.toList.isEmpty=false->x.text=⟨#[]⟩
 ats:x.tag.toList.isEmpty=true->x.ats=[]
theorem Qs5 {m:Qd} (a:Ze m=true \/ Zx m=true):Qe3 m:=⟨QjH a,(QaW a).1,λj b=>⟨(QeO ((QaW a).2 j b).1).1,QfD (QeO ((QaW a).2 j b).1).2.1⟩⟩
theorem QeQ {m:Qd} (a:Ze m=true):m.t.toList.isEmpty=false/\m.x=⟨#[]⟩:=by
 unfold Ze at a;simp only [Bool.and_eq_true] at a;refine ⟨?_,Qea ?_⟩
 ·cases e:m.t.toList.isEmpty with| false=>rfl| true=>rw [Qgl e] at a;cases a.1.1.1
 rw [isEmpty_iff.1 a.1.1.2,ByteArray.toList_eq]
theorem QeP {m:Qd} (a:Zx m=true):m.t.toList.isEmpty=true/\m.x.size<=20/\m.an=0:=by unfold Zx at a;simp only [Bool.and_eq_true,decide_eq_true_eq] at a;exact ⟨a.1.1.1,QfD a.2,a.1.2⟩
theorem QtI (o:Qw R last) (p:Zw R) {c:Int} (l:Qr R c) {x:NI} (d:Qc R c=x) (f:QcH x) (q:Ze ln=true \/ Zx ln=true) (k:x.tag=ln.t) : ∃ R',ZQ R last (Jo c x ln++JR c x ln) R' last/\QcN R R' c { x with text:=ln.x,ats:=Zc ln }:=by
 rcases q with m|r
 ·obtain ⟨g,h⟩:=QeQ m;have a:x.tag.toList.isEmpty=false:=by rw [k];exact g
  have b:x.text=ln.x:=by rw [f.text a,h]
  obtain ⟨R',s,u⟩:=Qt2 o p l d a f.rise (Qs5 (.inl m));refine ⟨R',?_,?_⟩
  ·rw [QgY (by rw [b];simp),nil_append];exact s
  rw [<- b];exact u
 obtain ⟨g,h,a⟩:=QeP r;have b:x.tag.toList.isEmpty=true:=by rw [k];exact g
 have i:=f.ats b;have v:Zc ln=[]:=by unfold Zc;rw [a];rfl
 have y:JR c x ln=[]:=by unfold JR;rw [i,a];rfl
 rw [y,v,append_nil];cases j:(x.text.toList==ln.x.toList) with
 | true =>
  have z:x.text=ln.x:=Qea (by simpa using j);refine ⟨R,?_,.refl ?_⟩
  ·rw [QgY j];exact .nil ..
  rw [d,<- z,<- i]
 | false =>
  obtain ⟨A,B,C,D,E,F⟩:=Qw2 o l (by rw [d];exact b) h;refine ⟨_,?_,B,C,?_,F⟩
  ·rw [Qji j];have n:=ZQ.one A;rw [E] at n;exact n
  rw [D,d,<- i]
theorem QjR (A:Nat->ByteArray × Int) (x:LK):∀ n v,QaT A n x=some v->∃ p:Nat,v=(p:Int)/\p<n/\x=⟨(A p).1,(A p).2,Q5 A (A p) p⟩
 | 0,v,h=>by cases h
 | n+1,v,h=>by
  rw [QaT] at h;unfold QaY at h;split at h
  ·next e =>
   cases h;exact ⟨n,rfl,by omega,e⟩
  obtain ⟨p,a,c,b⟩:=QjR A x n v h;exact ⟨p,a,by omega,b⟩
theorem QlN (A:Nat->ByteArray × Int) (x:ByteArray × Int) (i:Nat):∀ k,Q5 A x i<=Q5 A x (i+k)| 0=>X0| k+1=>by have:=QlN A x i k;rw [<- Nat.add_assoc,Q5];omega
theorem Qf1 {x:ByteArray × Int} (b:i<j) (e:A i=x):Q5 A x i<Q5 A x j:=by have a:=QlN A x (i+1) (j-(i+1));rw [show i+1+(j-(i+1))=j by omega,Q5,if_pos e] at a;omega
theorem QfB {B:Nat->ByteArray × Int} {v:Int} (a:Qa8 A n B j=v) (c:v≠-1):∃ p:Nat,v=(p:Int)/\p<n/\B j=A p/\Q5 B (B j) j=Q5 A (A p) p:=by unfold Qa8 at a;cases e:QaT A n ⟨(B j).1,(B j).2,Q5 B (B j) j⟩ with| none=>rw [e] at a;exact absurd a.symm c| some w =>rw [e] at a;obtain ⟨p,d,f,b⟩:=QjR A _ n w e;have g:w=v:=a;rw [LK.mk.injEq] at b;refine ⟨p,by rw [<- g];exact d,f,Prod.ext b.1 b.2.1,?_⟩;have:=b.2.2;omega
theorem Qmm {B:Nat->ByteArray × Int} {v:Int} (h:Qa8 A n B i=v) (k:Qa8 A n B j=v) (c:v≠-1):i=j:=by
 obtain ⟨p,o,r,l,d⟩:=QfB h c;obtain ⟨q,s,t,m,f⟩:=QfB k c;have e:p=q:=by omega
 subst e;have a:B i=B j:=by rw [l,m]
 rcases Nat.lt_trichotomy i j with b|b|b
 ·have:=Qf1 (A:=B) b a;rw [<- a] at f;rw [a] at d;have g:=Qf1 (A:=B) (x:=B j) b a;rw [a] at f;omega
 ·exact b
 have g:=Qf1 (A:=B) (x:=B i) b a.symm;rw [a] at d;rw [a] at g;omega
theorem QlK (v:Nat->Int):∀ n c,c ∈ Qp v n->c≠[]/\c.Pairwise λx f=>f<x/\v f<v x
 | 0,c,b=>by simp [Qp] at b
 | i+1,c,b=>by
  have ih:=QlK v i;have q:=Qf4 v i;have j:QaE (Qp v i) (QU v (Qp v i) i) i≠[]/\(QaE (Qp v i) (QU v (Qp v i) i) i).Pairwise λx f=>f<x/\v f<v x:=by
   refine ⟨by unfold QaE;simp,?_⟩;unfold QaE;split
   ·simp
   next A =>
   have B:=QdW v (Qp v i) i;have k:QU v (Qp v i) i-1<(Qp v i).length:=by omega
   have m:(Qp v i).getD (QU v (Qp v i) i-1) [] ∈ Qp v i:=by rw [Xg k];exact Xa0 _
   have h:v (ZX ((Qp v i).getD (QU v (Qp v i) i-1) []))<v i:=by
    have r:∀ c,c ∈ (Qp v i).takeWhile (λc=>decide (v (ZX c)<v i))->v (ZX c)<v i:=λc s=>by have:=all_eq_true.1 (all_takeWhile (l:=Qp v i) (p:=λc=>decide (v (ZX c)<v i))) c s;simpa using this
    refine r _ ?_;rw [Xg k];have t:QU v (Qp v i) i-1<((Qp v i).takeWhile (λc=>decide (v (ZX c)<v i))).length:=by show _<QU v (Qp v i) i;omega
    have u:((Qp v i).takeWhile (λc=>decide (v (ZX c)<v i)))[QU v (Qp v i) i-1]=(Qp v i)[QU v (Qp v i) i-1]:=(takeWhile_prefix _).getElem t;show (Qp v i)[QU v (Qp v i) i-1] ∈ _;rw [<- u];exact Xa0 _
   obtain ⟨C,o⟩:=ih _ m;have y:=q _ m;generalize (Qp v i).getD (QU v (Qp v i) i-1) []=d at *;rw [pairwise_cons];refine ⟨λf g=>⟨y f g,?_⟩,o⟩;cases d with
   | nil=>simp at g
   | cons a d =>
    have z:ZX (a::d)=a:=rfl;rw [z] at h;rcases mem_cons.1 g with e|e
    ·rw [e];exact h
    have:=((pairwise_cons.1 o).1 f e).2;omega
  rw [Qp] at b;unfold Qat at b;split at b
  ·rcases Xb2 b with b|b
   ·exact ih c b
   rw [b];exact j
  rcases Xa4.1 b with b|b
  ·exact ih c b
  rw [mem_singleton.1 b];exact j
theorem Qnh (v:Nat->Int) (n:Nat):∃ c:List Nat,QbE v n=c.map v/\c.Pairwise (λx d=>x<d/\v x<v d)/\∀ x,x ∈ c->x<n:=by
 refine ⟨((Qp v n).getLastD []).reverse,?_,?_,?_⟩
 ·unfold QbE;rw [map_reverse]
 ·rw [pairwise_reverse];cases e:Qp v n with| nil=>simp| cons a l=>exact (QlK v n _ (by rw [<- e];exact QfH _ _ (by rw [e];simp))).2
 intro x b;rw [mem_reverse] at b;cases e:Qp v n with| nil=>rw [e] at b;simp at b| cons a l=>exact Qf4 v n _ (QfH _ _ (by rw [e];simp)) x b
theorem Qhg (pr:List Int):(Q4 pr).Pairwise (λa b=>a<b)/\(Q4 pr).Sublist pr:=by
 obtain ⟨c,h,f,k⟩:=Qnh (λj=>(pr.filter QL).getD j 0) (pr.filter QL).length;unfold Q4;rw [h];refine ⟨pairwise_map.2 (f.imp λd=>d.2),?_⟩;have l:c.Sublist (List.range (pr.filter QL).length):=QdM (lt:=λa b:Nat=>a<b) (λa=>Xc8 a) (λa b c=>Xc6) _ c (f.imp λd=>d.1) pairwise_lt_range λa m=>Xa6.2 (k a m);have g:=l.map (λj=>(pr.filter QL).getD j 0);have n:(List.range (pr.filter QL).length).map (λj=>(pr.filter QL).getD j 0)=pr.filter QL:=by refine ext_getElem (by simp) λi p o=>?_;simp [o]
 rw [n] at g;exact g.trans filter_sublist
structure Qm9 (v:Nat->Int) (C:List (List Nat)):Prop where
 len:∀ j,j<C.length->(C.getD j []).length=j+1
 rise:∀ p q,p<q->q<C.length->v (ZX (C.getD p []))<v (ZX (C.getD q []))
theorem Qnf {v:Nat->Int} {C:List (List Nat)} (g:j<QU v C i):v (ZX (C.getD j []))<v i:=by
 have h:=QdW v C i;have a:∀ c,c ∈ C.takeWhile (λc=>decide (v (ZX c)<v i))->v (ZX c)<v i:=λc b=>by have:=all_eq_true.1 (all_takeWhile (l:=C) (p:=λc=>decide (v (ZX c)<v i))) c b;simpa using this
 refine a _ ?_;rw [Xg (by omega)];have d:j<(C.takeWhile (λc=>decide (v (ZX c)<v i))).length:=g;have f:(C.takeWhile (λc=>decide (v (ZX c)<v i)))[j]=C[j]:=(takeWhile_prefix _).getElem d;show C[j] ∈ _;rw [<- f];exact Xa0 _
theorem QgL {v:Nat->Int}:∀ {C:List (List Nat)} {i:Nat},QU v C i<C.length->v i<=v (ZX (C.getD (QU v C i) []))
 | [],i,h=>by simp at h
 | c::C,i,h=>by
  unfold QU at h ⊢;by_cases a:v (ZX c)<v i
  ·rw [takeWhile_cons_of_pos (by simpa using a)] at h ⊢;have:=QgL (v:=v) (C:=C) (i:=i) (by simpa [QU] using h);simpa [QU] using this
  rw [takeWhile_cons_of_neg (by simpa using a)];simp only [length_nil,getD_cons_zero];omega
theorem Qe8 {v:Nat->Int} {C:List (List Nat)} (j:Nat):(Qat v C i).getD j []=if j=QU v C i then QaE C (QU v C i) i else C.getD j []:=by
 have f:=QdW v C i;unfold Qat;by_cases a:QU v C i<C.length
 ·rw [if_pos a,getD_eq_getElem?_getD,getElem?_set];by_cases e:QU v C i=j
  ·rw [if_pos e,if_pos (by omega),if_pos e.symm];rfl
  rw [if_neg e,if_neg (λb=>e b.symm),<- getD_eq_getElem?_getD]
 rw [if_neg a,getD_eq_getElem?_getD];have c:QU v C i=C.length:=by omega
 by_cases e:j=QU v C i
 ·rw [if_pos e,e,c,getElem?_append_right X0];simp
 rw [if_neg e];by_cases d:j<C.length
 ·rw [getElem?_append_left d,<- getD_eq_getElem?_getD]
 rw [getElem?_eq_none (by rw [length_append];show C.length+1<=j;omega),getD_eq_getElem?_getD,getElem?_eq_none (by omega)]
theorem Ql1 {v:Nat->Int} {C:List (List Nat)}:(Qat v C i).length=if QU v C i<C.length then C.length else C.length+1:=by
 unfold Qat;split
 ·rw [length_set]
 rw [length_append];rfl
theorem QwW {v:Nat->Int} {C:List (List Nat)} (a:Qm9 v C):(QaE C (QU v C i) i).length=QU v C i+1:=by
 have b:=QdW v C i;unfold QaE;rw [length_cons];split
 ·next e=>rw [e];rfl
 next e=>rw [a.len _ (by omega)];omega
theorem Qhq (v:Nat->Int):∀ n,Qm9 v (Qp v n)
 | 0=>⟨λj b=>by simp [Qp] at b,λp q _ c=>by simp [Qp] at c⟩
 | i+1=>by
  have ih:=Qhq v i;have l:=QdW v (Qp v i) i;have f:=Ql1 (v:=v) (C:=Qp v i) (i:=i);have g:ZX (QaE (Qp v i) (QU v (Qp v i) i) i)=i:=rfl;rw [Qp];generalize Qp v i=C at *;refine ⟨λj b=>?_,λp q k c=>?_⟩
  ·rw [Qe8];split
   ·next e=>rw [QwW ih,e]
   next e =>
   refine ih.len j ?_;rw [f] at b;split at b<;>omega
  rw [Qe8,Qe8];have a:q≠QU v C i->q<C.length:=λe=>by rw [f] at c;split at c<;>omega
  by_cases h:p=QU v C i
  ·rw [if_pos h,g,if_neg (by omega)];have a:=a (by omega);have m:=QgL (v:=v) (C:=C) (i:=i) (by omega);have o:=ih.rise (QU v C i) q (by omega) a;omega
  rw [if_neg h];by_cases d:q=QU v C i
  ·rw [if_pos d,g];exact Qnf (by omega)
  rw [if_neg d];exact ih.rise p q k (a d)
theorem Qmc (v:Nat->Int):∀ n (c:List Nat),c≠[]->c.Pairwise (λx r=>x<r/\v x<v r)->(∀ x,x ∈ c->x<n)->c.length<=(Qp v n).length/\v (ZX ((Qp v n).getD (c.length-1) []))<=v (c.getLastD 0)
 | 0,c,hne,_,hlt=>by cases c with| nil=>exact absurd rfl hne| cons a c=>exact absurd (hlt a (by simp)) (Xb7 _)
 | i+1,c,hne,hp,hlt=>by
  have t:=Qhq v i;have ih:=Qmc v i;have B:=QdW v (Qp v i) i;have j:=Ql1 (v:=v) (C:=Qp v i) (i:=i);have k:ZX (QaE (Qp v i) (QU v (Qp v i) i) i)=i:=rfl;have u:(Qp v i).length<=(Qat v (Qp v i) i).length:=by rw [j];split<;>omega
  have A:QU v (Qp v i) i+1<=(Qat v (Qp v i) i).length:=by rw [j];split<;>omega
  rw [Qp];by_cases l:i ∈ c
  · -- it ends with i
   obtain ⟨d,rfl⟩:∃ d,c=d++[i]:=by
    obtain ⟨d,a,e⟩:∃ d a,c=d++[a]:=⟨c.dropLast,c.getLast hne,(dropLast_concat_getLast hne).symm⟩;subst e;have F:=hlt a (by simp);rcases Xa4.1 l with f|f
    ·have:=((pairwise_append.1 hp).2.2 i f a (by simp)).1;omega
    rw [mem_singleton.1 f];exact ⟨d,rfl⟩
   have s:(d++[i]).getLastD 0=i:=by simp
   rw [s];obtain ⟨z,_,m⟩:=pairwise_append.1 hp;have G:d.length<=QU v (Qp v i) i:=by
    by_cases g:d=[]
    ·rw [g];exact X3
    obtain ⟨o,p⟩:=ih d g z λx b=>(m x b i (by simp)).1;have y:d.getLastD 0 ∈ d:=QfH _ _ g;have D:0<d.length:=length_pos_iff.2 g;have H:=(m _ y i (by simp)).2;rcases Nat.lt_or_ge (d.length-1) (QU v (Qp v i) i) with f|f
    ·omega
    exfalso;have h:=QgL (v:=v) (C:=Qp v i) (i:=i) (by omega);rcases Nat.lt_or_ge (QU v (Qp v i) i) (d.length-1) with q|q
    ·have:=t.rise _ _ q (by omega);omega
    have e:QU v (Qp v i) i=d.length-1:=by omega
    rw [e] at h;omega
   have e:(d++[i]).length-1=d.length:=by simp
   refine ⟨by simp;omega,?_⟩;rw [e,Qe8];split
   ·rw [k];exact Int.le_refl _
   next I=>exact Int.le_of_lt (Qnf (by omega))
  obtain ⟨o,p⟩:=ih c hne hp λx b=>by
   have:=hlt x b;have:x≠i:=λe=>by rw [e] at b;exact l b
   omega
  refine ⟨Xb6 o u,?_⟩;rw [Qe8];split
  ·next e =>
   rw [k];have E:0<c.length:=length_pos_iff.2 hne;have h:=QgL (v:=v) (C:=Qp v i) (i:=i) (by omega);rw [<- e] at h;omega
  exact p
theorem QwB (v:Nat->Int) (n:Nat):(QbE v n).length=(Qp v n).length:=by
 unfold QbE;rw [length_reverse,length_map];have d:=Qhq v n;cases e:Qp v n with
 | nil=>rfl
 | cons a l =>
  have b:=d.len ((Qp v n).length-1) (by rw [e];simp);rw [e] at b;have c:(a::l).getLastD []=(a::l).getD ((a::l).length-1) []:=by rw [getLastD_eq_getLast?,getLast?_eq_getElem?,getD_eq_getElem?_getD]
  rw [c,b];simp
theorem Qv8 (v:Nat->Int) (n:Nat) (c:List Nat) (f:c.Pairwise (λx b=>x<b/\v x<v b)) (d:∀ x,x ∈ c->x<n):c.length<=(QbE v n).length:=by rw [QwB];cases c with| nil=>exact X3| cons a c=>exact (Qmc v n (a::c) (by simp) f d).1
end Go.Proofs.YtobgcaemnpkbmaaGreat
