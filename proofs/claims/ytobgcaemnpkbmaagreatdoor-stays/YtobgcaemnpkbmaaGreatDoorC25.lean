import Derived.Test.YtobgcaemnpkbmaaGreatDoorC23
namespace Go.Proofs.YtobgcaemnpkbmaaGreatDoor
set_option maxRecDepth 100000
set_option maxHeartbeats 8000000
open Go.RowKit List
def Qk (R:List RN) (i:Int):Prop:=∃ n,n ∈ R/\n.id=i
theorem Qmb {R:List RN} {i:Int} (h:Qk R i):∃ j,∃ a:j<R.length,R[j].id=i:=by obtain ⟨n,b,e⟩:=h;obtain ⟨j,a,rfl⟩:=getElem_of_mem b;exact ⟨j,a,e⟩
theorem Qc6 {R:List RN} (a:Qp R) {i:Int} (h:Qk R i):∃ k,∃ d:k<R.length,R[k].id=i/\QX R i=(k:Int):=by
 rcases QaH a i with e|⟨e,_⟩
 ·exact e
 obtain ⟨n,b,c⟩:=h;exact absurd c (e n b)
theorem Qce {R:List RN} (a:Qp R) {k:Nat} (b:k<R.length):Qc R R[k].id=⟨R[k].key,R[k].tag,R[k].text,R[k].ats,Qe R R[k].id⟩:=JT a (getElem_mem b)
theorem Qg5 {R:List RN} (a:Qp R) {m n:RN} (b:m ∈ R) (c:n ∈ R) (e:m.id=n.id):m=n:=by obtain ⟨i,d,rfl⟩:=getElem_of_mem b;obtain ⟨j,f,rfl⟩:=getElem_of_mem c;have:=a.inj i j d f e;subst this;rfl
theorem Qrc {R:List RN} {k:Nat} {n:RN} (d:k<R.length) (b:n.id=R[k].id) (i:Int):Qk (R.set k n) i↔Qk R i:=by
 constructor
 ·rintro ⟨m,f,e⟩;rcases mem_or_eq_of_mem_set f with h|h
  ·exact ⟨m,h,e⟩
  subst h;exact ⟨R[k],getElem_mem d,by rw [<- b];exact e⟩
 intro h;obtain ⟨j,c,e⟩:=Qmb h;by_cases a:j=k
 ·subst a;exact ⟨n,mem_set c n,by rw [b];exact e⟩
 refine ⟨R[j],?_,e⟩;have:(R.set k n)[j]'(by rw [length_set];exact c)=R[j]:=getElem_set_ne (λe=>a e.symm) _;rw [<- this];exact getElem_mem _
theorem Qss {R:List RN} (c:Qp R) {k:Nat} {n:RN} (a:k<R.length) (b:n.id=R[k].id) (d:n.par=R[k].par):Qc (R.set k n) R[k].id=⟨n.key,n.tag,n.text,n.ats,Qe R R[k].id⟩:=by have h:=JT (Qeb c a b) (mem_set a n);rw [b,Qgq a b d] at h;exact h
theorem QnY {R:List RN} (a:Qp R) {k:Nat} {n:RN} (b:k<R.length) (c:n.id=R[k].id) (h:n.par=R[k].par) {i:Int} (l:Qk R i) (f:i≠R[k].id):Qc (R.set k n) i=Qc R i:=by
 obtain ⟨j,d,rfl⟩:=Qmb l;have g:j≠k:=λe=>by subst e;exact f rfl
 have e:(R.set k n)[j]'(by rw [length_set];exact d)=R[j]:=getElem_set_ne (λe=>g e.symm) _;have m:R[j] ∈ R.set k n:=by rw [<- e];exact getElem_mem _
 rw [JT (Qeb a b c) m,Qgq b c h,Qce a d]
theorem Qpj (R:List RN) (n:RN) (i:Int):Qk (R++[n]) i↔Qk R i \/ i=n.id:=by
 constructor
 ·rintro ⟨m,a,e⟩;rcases mem_append.1 a with h|h
  ·exact .inl ⟨m,h,e⟩
  rw [mem_singleton.1 h] at e;exact .inr e.symm
 rintro (⟨m,a,e⟩|rfl)
 ·exact ⟨m,mem_append_left _ a,e⟩
 exact ⟨n,mem_append_right _ (mem_singleton.2 rfl),rfl⟩
theorem Qbf {R:List RN} (a:Qp R) {i:Int} (h:Qk R i):0<i:=by obtain ⟨n,b,rfl⟩:=h;exact a.pos n b
theorem Qqw {R:List RN} {n:RN} (d:Qp (R++[n])) (a:Qp R) (f:n.par=0) {i:Int} (b:Qk R i):Qc (R++[n]) i=Qc R i:=by have g:=Qbf a b;obtain ⟨m,c,rfl⟩:=b;rw [JT d (mem_append_left _ c),JT a c,Z0,JX,if_neg (by omega),append_nil]
theorem QsL {R:List RN} {last:Int} (h:QE R last) {q:Int} (j:q≠0) (b:¬ Qk R q):Qe R q=[]:=by
 cases e:Qe R q with
 | nil=>rfl
 | cons c l =>
  obtain ⟨n,d,f,_⟩:=Qaz.1 (show c ∈ Qe R q by rw [e];exact mem_cons_self ..);obtain ⟨rk,g⟩:=h.up;rcases g.par n d with a|⟨m,i,a⟩
  ·omega
  exact absurd ⟨m,i,by rw [a,f]⟩ b
theorem Qo5 {R:List RN} {last:Int} {n:RN} (h:QE R last) (a:Qp (R++[n])) (f:n.par=0) (d:n.id=last+1):Qc (R++[n]) n.id=⟨n.key,n.tag,n.text,n.ats,[]⟩:=by
 have g:=h.last_pos;have b:¬ Qk R n.id:=by rintro ⟨m,c,e⟩;have:=h.top m c;omega
 rw [JT a (mem_append_right _ (mem_singleton.2 rfl)),Z0,JX,if_neg (by omega),append_nil,QsL h (by omega) b]
theorem Ql1 {R:List RN} {q c:Int} (h:∀ n,n ∈ R->n.id≠c):(Qe R q).filter (λi=>i !=c)=Qe R q:=by rw [filter_eq_self];intro i a;obtain ⟨n,b,_,e⟩:=Qaz.1 a;have:=h n b;rw [e] at this;simpa using this
theorem Qhz {R:List RN} (d:Qp R) {k:Nat} (a:k<R.length) {q:Int} (g:q≠0):Qe (QO R k) q=(Qe R q).filter (λi=>i !=R[k].id):=by
 have h:∀ n,n ∈ R.take k->n.id≠R[k].id:=λn b e=>by obtain ⟨j,c,rfl⟩:=getElem_of_mem b;rw [length_take] at c;rw [getElem_take] at e;have:=d.inj j k (by omega) a e;omega
 have m:∀ n,n ∈ R.drop (k+1)->n.id≠R[k].id:=λn b e=>by obtain ⟨j,c,rfl⟩:=getElem_of_mem b;rw [length_drop] at c;rw [getElem_drop] at e;have:=d.inj (k+1+j) k (by omega) a e;omega
 have o:Qe R q=Qe (R.take k++[R[k]]++R.drop (k+1)) q:=congrArg (λl=>Qe l q) (QeS a);rw [Jq a,Qfc _ a,o];simp only [Z0,JX,filter_append];rw [Ql1 h,Ql1 m,if_neg (λe:(0:Int)=q=>g e.symm)];by_cases f:R[k].par=q
 ·rw [if_pos f];simp
 rw [if_neg f];simp
def Qbz (bf c:Int) (l:List Int):List Int:=if bf=0 then l++[c] else l.takeWhile (λi=>i !=bf)++[c]++l.dropWhile (λi=>i !=bf)
theorem Qmp {bf:Int}:∀ (l:List Int) (i:Nat),l[i]?=some bf->(∀ j,j<i->l[j]?≠some bf)->l.takeWhile (λb=>b !=bf)=l.take i/\l.dropWhile (λb=>b !=bf)=l.drop i
 | [],i,h,_=>by simp at h
 | a::l,0,h,_=>by
  have e:a=bf:=by simpa using h
  subst e;simp
 | a::l,i+1,h,hn=>by have e:a≠bf:=λe=>hn 0 (by omega) (by simp [e]);have ih:=Qmp l i (by simpa using h) (λj c=>by have:=hn (j+1) (by omega);simpa using this);simp [e,ih.1,ih.2]
theorem Qu1 {R:List RN} (d:Qp R) {k:Nat} (a:k<R.length) {pa bf q:Int} (c:q≠0) (E:pa≠0) (hb:bf=0 \/ (bf≠R[k].id/\bf ∈ Qe R pa)) : Qe (Q6 R { R[k] with par:=pa } k bf) q=if q=pa then Qbz bf R[k].id ((Qe R q).filter (λi=>i !=R[k].id)) else (Qe R q).filter (λi=>i !=R[k].id):=by
 have f:k<(QO R k).length:=by rw [Jq a,length_set];exact a
 have u:Qp (QO R k):=by rw [Jq a];exact Qeb d a rfl
 have g:(QO R k)[k].par=0:=by rw [QgX a f]
 rw [<- QhT a];by_cases e:q=pa
 ·subst e;rw [if_pos rfl];unfold Qbz;rcases hb with rfl|⟨v,x⟩
  ·rw [if_pos rfl,Qj3 f (by rw [g];exact λe=>c e.symm) rfl,Qhz d a c]
  obtain ⟨m,p,y,l⟩:=Qaz.1 x;have h:bf≠0:=by have:=d.pos m p;omega
  rw [if_neg h];obtain ⟨b,o,rfl⟩:=getElem_of_mem p;have z:b≠k:=λe=>by subst e;exact v l.symm
  have j:b<(QO R k).length:=by rw [Jq a,length_set];exact o
  have r:(QO R k)[b]=R[b]:=QfW a o z j;obtain ⟨i,_,s,t,A⟩:=Qli (n:={ R[k] with par:=q }) u f (by rw [g];exact λe=>c e.symm) rfl j (by rw [r];exact l) (by rw [r];exact y) h;rw [A];rw [Qhz d a c] at s t ⊢;obtain ⟨B,C⟩:=Qmp _ i s t;rw [B,C]
 rw [if_neg e,Qht f (by rw [g];exact λe=>c e.symm) (λD=>e D.symm),Qhz d a c]
theorem Qps {R:List RN} (f:Qp R) {k:Nat} (c:k<R.length) {pa bf:Int} (hb:bf=0 \/ ∃ i,i<R.length/\Qj R i=bf) (i:Int):Qk (Q6 R { R[k] with par:=pa } k bf) i↔Qk R i:=by
 obtain ⟨a,d⟩:=Qc8 (n:={ R[k] with par:=pa }) f c hb;constructor
 ·rintro ⟨m,b,rfl⟩;rcases mem_append.1 (a.mem_iff.1 b) with h|h
  ·exact ⟨m,d.mem_iff.2 (mem_append_left _ h),rfl⟩
  rw [mem_singleton.1 h];exact ⟨R[k],getElem_mem c,rfl⟩
 rintro ⟨m,b,rfl⟩;rcases mem_append.1 (d.mem_iff.1 b) with h|h
 ·exact ⟨m,a.mem_iff.2 (mem_append_left _ h),rfl⟩
 rw [mem_singleton.1 h];exact ⟨_,a.mem_iff.2 (mem_append_right _ (mem_singleton.2 rfl)),rfl⟩
theorem Qra {R:List RN} (a:Qp R) {k:Nat} (c:k<R.length) {pa bf:Int} (r:pa≠0) (hb:bf=0 \/ (bf≠R[k].id/\bf ∈ Qe R pa)) (f:bf=0 \/ ∃ i,i<R.length/\Qj R i=bf) {i:Int} (l:Qk R i) : Qc (Q6 R { R[k] with par:=pa } k bf) i={ Qc R i with kids:=if i=pa then Qbz bf R[k].id ((Qc R i).kids.filter (λj=>j !=R[k].id)) else (Qc R i).kids.filter (λj=>j !=R[k].id) }:=by
 obtain ⟨o,s⟩:=Qc8 (n:={ R[k] with par:=pa }) a c f;have g:=Qh2 (n:={ R[k] with par:=pa }) a c f rfl;have t:=Qbf a l;obtain ⟨m,p,rfl⟩:=l;have d:=Qu1 a c (q:=m.id) (by omega) r hb;rw [JT a p];rcases mem_append.1 (s.mem_iff.1 p) with h|h
 ·have b:=JT g (o.mem_iff.2 (mem_append_left [{ R[k] with par:=pa }] h));rw [b,d]
 have e:=mem_singleton.1 h;subst e;have b:=JT g (o.mem_iff.2 (mem_append_right (Qbi R k R.length) (mem_singleton.2 (rfl:({ R[k] with par:=pa }:RN)=_))));rw [d] at b;exact b
theorem Qn2 (R:List RN) (L:List Int) (q:Int):Qe (JH R L) q=(Qe R q).filter (λi=>!(L.contains i)):=by
 unfold Qe JH;rw [filter_map,filter_filter,filter_filter];congr 1
 refine filter_congr λn _=>?_;simp [Bool.and_comm]
theorem QrN {R:List RN} {last:Int} (h:QE R last) {k:Nat} (c:k<R.length) (i:Int):Qk (rmP R (QF R R.length k 0)) i↔Qk R i/\i ∉ Qv R R.length k:=by
 obtain ⟨rk,d⟩:=h.up;rw [QfR h.ids (QaA d c)];constructor
 ·rintro ⟨m,a,rfl⟩;obtain ⟨f,b⟩:=QcO.1 a;exact ⟨⟨m,f,rfl⟩,b⟩
 rintro ⟨⟨m,a,rfl⟩,b⟩;exact ⟨m,QcO.2 ⟨a,b⟩,rfl⟩
theorem Qr7 {R:List RN} {last:Int} (h:QE R last) {k:Nat} (l:k<R.length) {i:Int} (o:Qk R i) (q:i ∉ Qv R R.length k):Qc (rmP R (QF R R.length k 0)) i={ Qc R i with kids:=(Qc R i).kids.filter (λj=>j !=R[k].id) }:=by
 obtain ⟨rk,x⟩:=h.up;have a:=h.ids;have r:=QaA x l;have C:=Qbf a o;obtain ⟨m,s,rfl⟩:=o;have d:Qp (rmP R (QF R R.length k 0)):=QmF a;rw [QfR a r] at d ⊢;rw [JT d (QcO.2 ⟨s,q⟩),JT a s,Qn2];congr 1
 refine filter_congr λj y=>?_;obtain ⟨c,z,A,rfl⟩:=Qaz.1 y;obtain ⟨p,b,rfl⟩:=getElem_of_mem z;by_cases e:R[p].id=R[k].id
 ·have t:=a.inj p k b l e;subst t;have:R[p].id ∈ Qv R R.length p:=by cases E:R.length with| zero=>omega| succ f=>rw [Qv,QS b];exact mem_cons_self ..
  simp [this]
 have:R[p].id ∉ Qv R R.length k:=λu=>by
  rcases Qld a r b u with B|⟨n,D,v,g⟩
  ·subst B;exact e rfl
  rw [v,A] at g;exact q g
 simp [this,e]
inductive Qw (T:Int->NI):Int->Int->Prop
 | self (i:Int):Qw T i i
 | step {i k j:Int}:k ∈ (T i).kids->Qw T k j->Qw T i j
theorem Qc0 {R:List RN} (a:Qp R) {i:Int} (h:Qk R i):(Qc R i).kids=Qe R i:=by obtain ⟨n,b,rfl⟩:=h;rw [JT a b]
theorem QeE {R:List RN} (c:Qp R):∀ (f a:Nat),ZP R f a->∀ x,x ∈ Qv R f a↔Qw (Qc R) (Qj R a) x
 | 0,_,h,_=>by cases h
 | f+1,a,h,x=>by
  obtain ⟨i,j⟩:=h;have d:Qk R (Qj R a):=by rw [QS i];exact ⟨_,getElem_mem i,rfl⟩
  have n:Qj R a≠0:=by have:=Qbf c d;omega
  have g:(Qy R (Qj R a)).map (Qj R)=(Qc R (Qj R a)).kids:=by rw [Qc0 c d,Qck R n]
  rw [Qv,mem_cons,mem_flatMap];constructor
  ·rintro (rfl|⟨k,b,m⟩)
   ·exact .self _
   refine .step (k:=Qj R k) ?_ ((QeE c f k (j k b) x).1 m);rw [<- g];exact mem_map.2 ⟨k,b,rfl⟩
  intro o;cases o with| self=>exact .inl rfl| step l p =>rw [<- g] at l;obtain ⟨k,b,rfl⟩:=mem_map.1 l;exact .inr ⟨k,b,(QeE c f k (j k b) x).2 p⟩
theorem Qpp {R:List RN} {last:Int} (c:R.length<800) {a:Int} {tg b:ByteArray} (d:QbY (Jt tg a b)=true) : canP R last ⟨1,last+1,0,0,a,tg,⟨#[]⟩,b⟩=true/\QU R ⟨1,last+1,0,0,a,tg,⟨#[]⟩,b⟩=R++[QfP ⟨1,last+1,0,0,a,tg,⟨#[]⟩,b⟩]/\Jr last ⟨1,last+1,0,0,a,tg,⟨#[]⟩,b⟩=last+1:=by refine ⟨?_,rfl,rfl⟩;unfold canP;rw [if_pos (by simp)];unfold Qc5;simp only [d,Bool.true_and,Bool.and_eq_true,decide_eq_true_eq,beq_self_eq_true];exact ⟨⟨⟨c,trivial⟩,trivial⟩,by simp⟩
theorem QeU {R:List RN} {k:Nat} (a:k<R.length) {i:Int} (h:QX R i=(k:Int)):nth R (QX R i).toNat=R[k]:=by rw [h,Int.toNat_natCast,QaM a]
theorem QlI {R:List RN} {last:Int} (h:QE R last) {c pa bf:Int} (H:Qk R c) (A:c≠1) (n:Qk R pa) (u:(Qc R pa).tag.toList.isEmpty=false) (hb:bf=0 \/ (bf≠c/\bf ∈ (Qc R pa).kids)) (I:¬ QbQ R pa c) : canP R last ⟨2,c,pa,bf,0,⟨#[]⟩,⟨#[]⟩,⟨#[]⟩⟩=true/\(∀ i,Qk (QU R ⟨2,c,pa,bf,0,⟨#[]⟩,⟨#[]⟩,⟨#[]⟩⟩) i↔Qk R i)/\(∀ i,Qk R i->Qc (QU R ⟨2,c,pa,bf,0,⟨#[]⟩,⟨#[]⟩,⟨#[]⟩⟩) i={ Qc R i with kids:=if i=pa then Qbz bf c ((Qc R i).kids.filter (λj=>j !=c)) else (Qc R i).kids.filter (λj=>j !=c) })/\Jr last ⟨2,c,pa,bf,0,⟨#[]⟩,⟨#[]⟩,⟨#[]⟩⟩=last/\(QU R ⟨2,c,pa,bf,0,⟨#[]⟩,⟨#[]⟩,⟨#[]⟩⟩).length=R.length:=by
 have a:=h.ids;obtain ⟨k,d,o,q⟩:=Qc6 a H;obtain ⟨p,x,B,C⟩:=Qc6 a n;have P:=Qbf a n;have z:=Qc0 a n;have D:Qc R pa=⟨R[p].key,R[p].tag,R[p].text,R[p].ats,Qe R R[p].id⟩:=by rw [<- B];exact Qce a x
 have r:bf=0 \/ (bf≠R[k].id/\bf ∈ Qe R pa):=by
  rcases hb with e|⟨t,f⟩
  ·exact .inl e
  rw [z] at f;rw [o];exact .inr ⟨t,f⟩
 have s:bf=0 \/ ∃ i,i<R.length/\Qj R i=bf:=by
  rcases r with e|⟨_,e⟩
  ·exact .inl e
  obtain ⟨m,g,_,rfl⟩:=Qaz.1 e;obtain ⟨j,b,rfl⟩:=getElem_of_mem g;exact .inr ⟨j,b,QS b⟩
 have E:ZG R ⟨2,c,pa,bf,0,⟨#[]⟩,⟨#[]⟩,⟨#[]⟩⟩=R[k]:=QeU d q;have l:QU R ⟨2,c,pa,bf,0,⟨#[]⟩,⟨#[]⟩,⟨#[]⟩⟩=Q6 R { R[k] with par:=pa } k bf:=by unfold QU;rw [if_neg (by simp),if_pos (by simp),E];show Q6 R _ (QX R c).toNat bf=_;rw [q,Int.toNat_natCast]
 refine ⟨?_,λi=>?_,λi J=>?_,rfl,?_⟩
 ·unfold canP;rw [if_neg (by simp),if_pos (by simp)];unfold insB;have K:∀ i:Decidable (QbQ R pa c),@decide _ i=false:=λi=>decide_eq_false I;have t:nth R p=R[p]:=QaM x;have f:R[p].tag.toList.isEmpty=false:=by rw [D] at u;exact u
  have L:(!(bf !=0)||(decide (0<=QX R bf)&&!((nth R (QX R bf).toNat).par !=pa)&&!(bf==c)))=true:=by
   rcases r with e|⟨y,M⟩
   ·rw [e];rfl
   obtain ⟨m,g,F,rfl⟩:=Qaz.1 M;obtain ⟨j,b,G,v⟩:=Qc6 a ⟨m,g,rfl⟩;have N:R[j]=m:=Qg5 a (getElem_mem b) g G;rw [QeU b v,v,N,F];rw [o] at y;have:(m.id==c)=false:=beq_eq_false_iff_ne.2 y;simp [this]
  have O:(c==1)=false:=beq_eq_false_iff_ne.2 A;simp only [K,L,q,C,Int.toNat_natCast,t,f,O];simp
 ·rw [l];exact Qps a d s i
 ·rw [l];have:=Qra a d (pa:=pa) (by omega) r s J;rw [o] at this;exact this
 rw [l];exact QmI a d s
theorem QqX {R:List RN} {last:Int} (h:QE R last) {c:Int} (o:Qk R c) (n:c≠1) : canP R last ⟨3,c,0,0,0,⟨#[]⟩,⟨#[]⟩,⟨#[]⟩⟩=true/\(∀ i,Qk (QU R ⟨3,c,0,0,0,⟨#[]⟩,⟨#[]⟩,⟨#[]⟩⟩) i↔Qk R i/\¬ Qw (Qc R) c i)/\(∀ i,Qk R i->¬ Qw (Qc R) c i->Qc (QU R ⟨3,c,0,0,0,⟨#[]⟩,⟨#[]⟩,⟨#[]⟩⟩) i={ Qc R i with kids:=(Qc R i).kids.filter (λj=>j !=c) })/\Jr last ⟨3,c,0,0,0,⟨#[]⟩,⟨#[]⟩,⟨#[]⟩⟩=last/\(QU R ⟨3,c,0,0,0,⟨#[]⟩,⟨#[]⟩,⟨#[]⟩⟩).length<=R.length:=by
 have d:=h.ids;obtain ⟨k,a,f,g⟩:=Qc6 d o;obtain ⟨rk,p⟩:=h.up;have l:=QaA p a;have b:QU R ⟨3,c,0,0,0,⟨#[]⟩,⟨#[]⟩,⟨#[]⟩⟩=rmP R (QF R R.length k 0):=by unfold QU;rw [if_neg (by simp),if_neg (by simp),if_pos (by simp)];show rmP R (QF R R.length (QX R c).toNat 0)=_;rw [g,Int.toNat_natCast]
 have m:∀ i,i ∈ Qv R R.length k↔Qw (Qc R) c i:=λi=>by have:=QeE d R.length k l i;rw [QS a,f] at this;exact this
 refine ⟨?_,λi=>?_,λi q r=>?_,rfl,?_⟩
 ·unfold canP;rw [if_neg (by simp),if_neg (by simp),if_pos (by simp)];unfold Qd1;have s:(c==1)=false:=beq_eq_false_iff_ne.2 n;simp only [g,s];simp
 ·rw [b,QrN h a,m]
 ·rw [b,<- f];refine Qr7 h a q ?_;rw [m];exact r
 rw [b,QfR d l];exact length_filter_le _ _
theorem QhS {R:List RN} {last:Int} (h:QE R last) {x:Qn} {k:Nat} (a:k<R.length) {n:RN} (b:n.id=R[k].id) (c:n.par=R[k].par) (d:QU R x=R.set k n) : (∀ i,Qk (QU R x) i↔Qk R i)/\(∀ i,Qk R i->i≠R[k].id->Qc (QU R x) i=Qc R i)/\Qc (QU R x) R[k].id=⟨n.key,n.tag,n.text,n.ats,(Qc R R[k].id).kids⟩/\(QU R x).length=R.length:=by rw [d];refine ⟨Qrc a b,λi g f=>QnY h.ids a b c g f,?_,length_set ..⟩;rw [Qss h.ids a b c,Qce h.ids a]
theorem Qre {R:List RN} {last:Int} (h:QE R last) {c:Int} (r:Qk R c) {a:ByteArray} (f:(Qc R c).tag.toList.isEmpty=true) (x:a.size<=20) : canP R last ⟨6,c,0,0,0,⟨#[]⟩,⟨#[]⟩,a⟩=true/\(∀ i,Qk (QU R ⟨6,c,0,0,0,⟨#[]⟩,⟨#[]⟩,a⟩) i↔Qk R i)/\(∀ i,Qk R i->i≠c->Qc (QU R ⟨6,c,0,0,0,⟨#[]⟩,⟨#[]⟩,a⟩) i=Qc R i)/\Qc (QU R ⟨6,c,0,0,0,⟨#[]⟩,⟨#[]⟩,a⟩) c={ Qc R c with text:=a }/\Jr last ⟨6,c,0,0,0,⟨#[]⟩,⟨#[]⟩,a⟩=last/\(QU R ⟨6,c,0,0,0,⟨#[]⟩,⟨#[]⟩,a⟩).length=R.length:=by
 have m:=h.ids;obtain ⟨k,d,g,b⟩:=Qc6 m r;have j:ZG R ⟨6,c,0,0,0,⟨#[]⟩,⟨#[]⟩,a⟩=R[k]:=QeU d b;have l:Qc R c=⟨R[k].key,R[k].tag,R[k].text,R[k].ats,Qe R R[k].id⟩:=by rw [<- g];exact Qce m d
 have q:QU R ⟨6,c,0,0,0,⟨#[]⟩,⟨#[]⟩,a⟩=R.set k { R[k] with text:=a }:=by unfold QU;rw [if_neg (by simp),if_neg (by simp),if_neg (by simp),if_pos (by simp),j];show R.set (QX R c).toNat _=_;rw [b,Int.toNat_natCast]
 obtain ⟨s,o,p,t⟩:=QhS h d (n:={ R[k] with text:=a }) rfl rfl q;rw [g] at o p;refine ⟨?_,s,o,?_,rfl,t⟩
 ·unfold canP;rw [if_neg (by simp),if_neg (by simp),if_neg (by simp),if_pos (by simp),j];unfold Qep;have u:R[k].tag.toList.isEmpty=true:=by rw [l] at f;exact f
  have v:decide ((a.size:Int)<=20)=true:=by simp;omega
  simp only [b,u,v];simp
 rw [p,l]
theorem Qti {R:List RN} {last:Int} (h:QE R last) {c:Int} (s:Qk R c) {nm vl:ByteArray} (r:QR nm=true) (f:(Qc R c).tag.toList.isEmpty=false) (z:vl.size<=20) (d:(ZE (Qc R c).ats nm).length<(Qc R c).ats.length \/ (Qc R c).ats.length<5) : canP R last ⟨4,c,0,0,0,⟨#[]⟩,nm,vl⟩=true/\(∀ i,Qk (QU R ⟨4,c,0,0,0,⟨#[]⟩,nm,vl⟩) i↔Qk R i)/\(∀ i,Qk R i->i≠c->Qc (QU R ⟨4,c,0,0,0,⟨#[]⟩,nm,vl⟩) i=Qc R i)/\Qc (QU R ⟨4,c,0,0,0,⟨#[]⟩,nm,vl⟩) c={ Qc R c with ats:=ZZ (Qc R c).ats nm vl }/\Jr last ⟨4,c,0,0,0,⟨#[]⟩,nm,vl⟩=last/\(QU R ⟨4,c,0,0,0,⟨#[]⟩,nm,vl⟩).length=R.length:=by
 have m:=h.ids;obtain ⟨k,b,g,a⟩:=Qc6 m s;have j:ZG R ⟨4,c,0,0,0,⟨#[]⟩,nm,vl⟩=R[k]:=QeU b a;have l:Qc R c=⟨R[k].key,R[k].tag,R[k].text,R[k].ats,Qe R R[k].id⟩:=by rw [<- g];exact Qce m b
 have q:QU R ⟨4,c,0,0,0,⟨#[]⟩,nm,vl⟩=R.set k { R[k] with ats:=ZZ R[k].ats nm vl }:=by unfold QU;rw [if_neg (by simp),if_neg (by simp),if_neg (by simp),if_neg (by simp),if_pos (by simp),j];show R.set (QX R c).toNat _=_;rw [a,Int.toNat_natCast]
 obtain ⟨t,o,p,u⟩:=QhS h b (n:={ R[k] with ats:=ZZ R[k].ats nm vl }) rfl rfl q;rw [g] at o p;refine ⟨?_,t,o,?_,rfl,u⟩
 ·unfold canP;rw [if_neg (by simp),if_neg (by simp),if_neg (by simp),if_neg (by simp),if_pos (by simp),j];unfold Qeg QdN;rw [l] at f d;have v:R[k].tag.toList.isEmpty=false:=f;have x:decide ((vl.size:Int)<=20)=true:=by simp;omega
  have y:(decide ((ZE R[k].ats nm).length<R[k].ats.length)||decide (R[k].ats.length<5))=true:=by simpa using d
  simp only [a,v,x,r,y];simp
 rw [p,l]
theorem QuO {R:List RN} {last:Int} (h:QE R last) {c:Int} (u:Qk R c) {nm:ByteArray} (t:QR nm=true) (d:(Qc R c).tag.toList.isEmpty=false) (f:(ZE (Qc R c).ats nm).length<(Qc R c).ats.length) :
  canP R last ⟨5,c,0,0,0,⟨#[]⟩,nm,⟨#[]⟩⟩=true/\(∀ i,Qk (QU R ⟨5,c,0,0,0,⟨#[]⟩,nm,⟨#[]⟩⟩) i↔Qk R i)/\(∀ i,Qk R i->i≠c->Qc (QU R ⟨5,c,0,0,0,⟨#[]⟩,nm,⟨#[]⟩⟩) i=Qc R i)/\Qc (QU R ⟨5,c,0,0,0,⟨#[]⟩,nm,⟨#[]⟩⟩) c={ Qc R c with ats:=ZE (Qc R c).ats nm }/\Jr last ⟨5,c,0,0,0,⟨#[]⟩,nm,⟨#[]⟩⟩=last/\(QU R ⟨5,c,0,0,0,⟨#[]⟩,nm,⟨#[]⟩⟩).length=R.length:=by
 have o:=h.ids
 obtain ⟨k,b,g,a⟩:=Qc6 o u
 have j:ZG R ⟨5,c,0,0,0,⟨#[]⟩,nm,⟨#[]⟩⟩=R[k]:=QeU b a
 have m:Qc R c=⟨R[k].key,R[k].tag,R[k].text,R[k].ats,Qe R R[k].id⟩:=by rw [<- g];exact Qce o b
 have s:QU R ⟨5,c,0,0,0,⟨#[]⟩,nm,⟨#[]⟩⟩=R.set k { R[k] with ats:=ZE R[k].ats nm }:=by
  unfold QU
  rw [if_neg (by simp),if_neg (by simp),if_neg (by simp),if_neg (by simp),if_neg (by simp),j]
  show R.set (QX R c).toNat _=_
  rw [a,Int.toNat_natCast]
 obtain ⟨v,p,q,y⟩:=QhS h b (n:={ R[k] with ats:=ZE R[k].ats nm }) rfl rfl s
 rw [g] at p q
 refine ⟨?_,v,p,?_,rfl,y⟩
 ·unfold canP
  rw [if_neg (by simp),if_neg (by simp),if_neg (by simp),if_neg (by simp),if_neg (by simp),if_pos (by simp),j]
  unfold QeA QdN
  rw [m] at d f
  have z:R[k].tag.toList.isEmpty=false:=d
  have A:decide ((ZE R[k].ats nm).length<R[k].ats.length)=true:=by simpa using f
  simp only [a,z,t,A]
  simp
  decide
 ·rw [q,m]
inductive Zv:List RN->Int->List Qn->List RN->Int->Prop
 | nil (R:List RN) (l:Int):Zv R l [] R l
 | cons {R R':List RN} {l r:Int} {x:Qn} {P:List Qn}:canP R l x=true->Zv (QU R x) (Jr l x) P R' r->Zv R l (x::P) R' r
theorem Zv.app {R a b:List RN} {l c d:Int} {P f:List Qn} (h:Zv R l P a c) (k:Zv a c f b d):Zv R l (P++f) b d:=by induction h with| nil=>exact k| cons g _ ih=>exact .cons g (ih k)
theorem Zv.one {R:List RN} {l:Int} {x:Qn} (h:canP R l x=true):Zv R l [x] (QU R x) (Jr l x):=.cons h (.nil ..)
theorem Zv.ok {R R':List RN} {l b:Int} {P:List Qn} (h:Zv R l P R' b) (a:QE R l) (c:ZA R):QE R' b/\ZA R':=by induction h with| nil=>exact ⟨a,c⟩| cons d _ ih=>exact ih (a.did d) (c.did a.ids d)
theorem QcA {α:Type} {lt:α->α->Prop} (d:∀ a,¬ lt a a) (g:∀ a b c,lt a b->lt b c->lt a c):∀ (m l:List α),l.Pairwise lt->m.Pairwise lt->(∀ a,a ∈ l->a ∈ m)->l.Sublist m
 | [],l,_,_,h=>by cases l with| nil=>exact .slnil| cons a l=>exact absurd (h a (mem_cons_self ..)) (by simp)
 | b::m,[],_,_,_=>nil_sublist _
 | b::m,a::l,hl,hm,h=>by
  obtain ⟨k,p⟩:=pairwise_cons.1 hl;obtain ⟨q,n⟩:=pairwise_cons.1 hm;rcases mem_cons.1 (h a (mem_cons_self ..)) with e|e
  ·subst e;refine .cons_cons _ (QcA d g m l p n λx f=>?_);rcases mem_cons.1 (h x (mem_cons_of_mem _ f)) with e|e
   ·subst e;exact absurd (k _ f) (d _)
   exact e
  refine .cons _ (QcA d g m (a::l) hl n λx f=>?_);rcases mem_cons.1 (h x f) with i|i
  ·subst i;have o:=q a e;rcases mem_cons.1 f with j|j
   ·subst j;exact absurd o (d _)
   exact absurd (g _ _ _ o (k _ j)) (d _)
  exact i
theorem QcJ (a:ByteArray):¬ Q1 a a=true:=by unfold Q1;rw [Qi9];simp
theorem Qiz (a b c:ByteArray) (h:Q1 a b=true) (k:Q1 b c=true):Q1 a c=true:=Qfh _ _ _ h k
theorem Qup {l m:List (ByteArray × ByteArray)} (f:Zw l) (g:Zw m) (h:∀ a,a ∈ l↔a ∈ m):l=m:=by have i:=QcA (lt:=λx d:ByteArray × ByteArray=>Q1 x.1 d.1=true) (λa=>QcJ a.1) (λa b c=>Qiz a.1 b.1 c.1) m l f g λa=>(h a).1;have j:=QcA (lt:=λx d:ByteArray × ByteArray=>Q1 x.1 d.1=true) (λa=>QcJ a.1) (λa b c=>Qiz a.1 b.1 c.1) l m g f λa=>(h a).2;exact i.eq_of_length_le j.length_le
theorem Qio {l:List (ByteArray × ByteArray)} (c:Zw l) {a b:ByteArray × ByteArray} (g:a ∈ l) (hb:b ∈ l) (e:a.1=b.1):a=b:=by
 obtain ⟨i,d,rfl⟩:=getElem_of_mem g;obtain ⟨j,f,rfl⟩:=getElem_of_mem hb;rcases Nat.lt_trichotomy i j with h|h|h
 ·have:=pairwise_iff_getElem.1 c i j d f h;rw [e] at this;exact absurd this (QcJ _)
 ·subst h;rfl
 have:=pairwise_iff_getElem.1 c j i f d h;rw [e] at this;exact absurd this (QcJ _)
theorem Qkh {l:List (ByteArray × ByteArray)} (c:Zw l):(l.map (·.1)).Pairwise (λa b=>Q1 a b=true):=pairwise_map.2 c
theorem Qry {l m:List (ByteArray × ByteArray)} (k:Zw l) (n:Zw m) (h:∀ a,a ∈ l->∃ b,b ∈ m/\b.1=a.1) {c:ByteArray × ByteArray} (o:c ∈ m) (j:∀ a,a ∈ l->a.1≠c.1):l.length<m.length:=by
 have g:=QcA QcJ Qiz (m.map (·.1)) (l.map (·.1)) (Qkh k) (Qkh n) (λx p=>by obtain ⟨a,d,rfl⟩:=mem_map.1 p;obtain ⟨b,hb,e⟩:=h a d;exact mem_map.2 ⟨b,hb,e⟩);have q:=g.length_le;rw [length_map,length_map] at q;rcases Nat.lt_or_ge l.length m.length with f|f
 ·exact f
 exfalso;have r:=g.eq_of_length_le (by rw [length_map,length_map];exact f);have i:c.1 ∈ m.map (·.1):=mem_map.2 ⟨c,o,rfl⟩;rw [<- r] at i;obtain ⟨a,d,e⟩:=mem_map.1 i;exact j a d e
theorem Qnm {l:List (ByteArray × ByteArray)} (d:Zw l) {nm vl:ByteArray} (a:ByteArray × ByteArray):a ∈ ZZ l nm vl↔a=(nm,vl) \/ (a ∈ l/\a.1≠nm):=by
 have f:(nm,vl) ∈ ZZ l nm vl:=by rw [Qfa d];simp
 constructor
 ·intro h;by_cases e:a.1=nm
  ·exact .inl (Qio (QfD d) h f e)
  rcases QfK h with c|c
  ·exact .inr ⟨c,e⟩
  exact .inl c
 rintro (rfl|⟨c,g⟩)
 ·exact f
 obtain ⟨i,k,rfl⟩:=getElem_of_mem c;rw [Qfa d];by_cases m:i<Qs l nm
 ·refine mem_append_left _ (mem_append_left _ ?_);rw [mem_take_iff_getElem];exact ⟨i,by omega,rfl⟩
 refine mem_append_right _ ?_;rw [mem_drop_iff_getElem];unfold JA;by_cases b:Zc l nm=true
 ·rw [if_pos b];have j:i≠Qs l nm:=λe=>by unfold Zc at b;simp only [Bool.and_eq_true,decide_eq_true_eq] at b;rw [Qcr b.1] at b;have:=Qit b.2;subst e;exact g this
  exact ⟨i-(Qs l nm+1),by omega,by congr 1;omega⟩
 rw [if_neg b];exact ⟨i-Qs l nm,by omega,by congr 1;omega⟩
theorem Qke {l:List (ByteArray × ByteArray)} {nm:ByteArray} (a:ByteArray × ByteArray):a ∈ ZE l nm↔a ∈ l/\a.1≠nm:=by
 unfold ZE;rw [mem_filter];constructor
 ·rintro ⟨c,b⟩;refine ⟨c,λe=>?_⟩;rw [e] at b;simp [ZK] at b
 rintro ⟨c,b⟩;refine ⟨c,?_⟩;cases e:ZK a.1 nm with| false=>rfl| true=>exact absurd (Qit e) b
theorem QjQ {l:List (ByteArray × ByteArray)} {nm:ByteArray} {a:ByteArray × ByteArray} (b:a ∈ l) (e:a.1=nm):(ZE l nm).length<l.length:=by
 rcases Nat.lt_or_ge (ZE l nm).length l.length with h|h
 ·exact h
 exfalso;have c:(ZE l nm).Sublist l:=filter_sublist;have d:=c.eq_of_length_le h;rw [<- d] at b;exact ((Qke a).1 b).2 e
structure Qb0 (R R':List RN) (c:Int) (y:NI):Prop where
 has:∀ i,Qk R' i↔Qk R i
 rest:∀ i,Qk R i->i≠c->Qc R' i=Qc R i
 at':Qc R' c=y
 len:R'.length=R.length
theorem Qb0.refl {R:List RN} {c:Int} {a:NI} (h:Qc R c=a):Qb0 R R c a:=⟨λ_=>Iff.rfl,λ_ _ _=>rfl,h,rfl⟩
theorem Qb0.trans {R a b:List RN} {c:Int} {g z:NI} (h:Qb0 R a c g) (k:Qb0 a b c z):Qb0 R b c z := ⟨λi=>(k.has i).trans (h.has i),λi d f=>(k.rest i ((h.has i).2 d) f).trans (h.rest i d f),k.at',k.len.trans h.len⟩
theorem Qe0 {l:List (ByteArray × ByteArray)} {j:Nat} (h:j<l.length):Q4 l j=l[j].1/\Zq l j=l[j].2:=by unfold Q4 Zq;rw [Xg h];exact ⟨rfl,rfl⟩
theorem QtR {nm:Nat->ByteArray} {x:ByteArray} {k:Nat}:Jy nm x k=true↔∃ j,j<k/\nm j=x:=by
 unfold Jy;rw [any_eq_true];constructor
 ·rintro ⟨j,a,e⟩;exact ⟨j,mem_range.1 a,Qei (by simpa using e)⟩
 rintro ⟨j,a,rfl⟩;exact ⟨j,mem_range.2 a,by simp⟩
theorem QrS {l:List (ByteArray × ByteArray)} {x g:ByteArray}:J2 (Q4 l) (Zq l) x g l.length=true↔(x,g) ∈ l:=by
 unfold J2;rw [any_eq_true];constructor
 ·rintro ⟨j,a,e⟩;have a:=mem_range.1 a;obtain ⟨b,c⟩:=Qe0 a;simp only [Bool.and_eq_true,beq_iff_eq] at e;have d:=Qei e.1;have f:=Qei e.2;rw [b] at d;rw [c] at f;rw [d,f];exact getElem_mem a
 intro h;obtain ⟨j,a,e⟩:=getElem_of_mem h;obtain ⟨b,c⟩:=Qe0 a;refine ⟨j,mem_range.2 a,?_⟩;rw [b,c,e];simp
theorem Qii {m:Qd} (a:ByteArray × ByteArray):a ∈ Zn m↔∃ j,j<m.an/\a=(m.nm j,m.vl j):=by
 constructor
 ·exact Qhq
 rintro ⟨j,b,rfl⟩;unfold Zn;exact mem_map.2 ⟨j,mem_range.2 b,rfl⟩
structure QeO (ln:Qd):Prop where
 rise:Zw (Zn ln)
 few:ln.an<=5
 name:∀ j,j<ln.an->QR (ln.nm j)=true/\(ln.vl j).size<=20
theorem QeO.inj {a:Qd} (h:QeO a) {i j:Nat} (c:i<a.an) (d:j<a.an) (e:a.nm i=a.nm j):i=j:=by
 have f:=h.rise;rcases Nat.lt_trichotomy i j with b|b|b
 ·have:=pairwise_iff_getElem.1 f i j (by rw [Qdo];exact c) (by rw [Qdo];exact d) b;simp only [Zn,getElem_map,getElem_range] at this;rw [e] at this;exact absurd this (QcJ _)
 ·exact b
 have:=pairwise_iff_getElem.1 f j i (by rw [Qdo];exact d) (by rw [Qdo];exact c) b;simp only [Zn,getElem_map,getElem_range] at this;rw [e] at this;exact absurd this (QcJ _)
theorem QlA {R:List RN} {last:Int} (h:QE R last) (q:ZA R) {c:Int} (r:Qk R c) {x:NI} (s:Qc R c=x) (y:x.tag.toList.isEmpty=false) (m:Zw x.ats) (l:Nat->ByteArray) (o:Nat) : ∀ k,k<=x.ats.length->∃ R' A,Zv R last (Qas c (Q4 x.ats) l o k) R' last/\Qb0 R R' c { x with ats:=A }/\Zw A/\∀ a,a ∈ A↔a ∈ x.ats/\∀ j,j<k->Q4 x.ats j=a.1->Jy l a.1 o=true
 | 0,_=>⟨R,x.ats,.nil ..,.refl s,m,λa=>⟨λh=>⟨h,λj d=>absurd d (Nat.not_lt_zero _)⟩,λh=>h.1⟩⟩
 | k+1,hk=>by
  obtain ⟨R',A,t,g,B,u⟩:=QlA h q r s y m l o k (by omega);have i:k<x.ats.length:=by omega
  have C:=(Qe0 i).1;cases p:Jy l (Q4 x.ats k) o with
  | true =>
   refine ⟨R',A,by rw [QhH p];exact t,g,B,λa=>?_⟩;rw [u];refine ⟨λ⟨f,b⟩=>⟨f,λj d e=>?_⟩,λ⟨f,b⟩=>⟨f,λj d=>b j (by omega)⟩⟩;by_cases v:j=k
   ·subst v;rw [<- e];exact p
   exact b j (by omega) e
  | false =>
   obtain ⟨J,U⟩:=t.ok h q;have K:=(g.has c).2 r;have I:x.ats[k] ∈ A:=(u _).2 ⟨getElem_mem i,λj d e=>by have:=Qio m (getElem_mem (show j<x.ats.length by omega)) (getElem_mem i) (by rw [<- (Qe0 (show j<x.ats.length by omega)).1];exact e);have z:=pairwise_iff_getElem.1 m j k (by omega) i d;rw [this] at z;exact absurd z (QcJ _)⟩;have H:QR (Q4 x.ats k)=true:=by
    obtain ⟨n,D,e⟩:=r;have E:=JT h.ids D;rw [e,s] at E;have:x.ats[k] ∈ n.ats:=by
     have L:x.ats=n.ats:=by rw [E]
     rw [<- L];exact getElem_mem i
    rw [C];exact (q n D _ this).1
   obtain ⟨M,N,O,F,P,S⟩:=QuO J K H (by rw [g.at'];exact y) (by rw [g.at'];exact QjQ I C.symm);rw [g.at'] at F;refine ⟨_,ZE A (Q4 x.ats k),by rw [Qhi p];exact t.app (by have G:=Zv.one M;rw [P] at G;exact G),g.trans ⟨N,O,F,S⟩,QkE B,λa=>?_⟩;rw [Qke,u];refine ⟨λ⟨⟨f,b⟩,T⟩=>⟨f,λj d e=>?_⟩,λ⟨f,b⟩=>⟨⟨f,λj d=>b j (by omega)⟩,λe=>?_⟩⟩
   ·by_cases v:j=k
    ·subst v;exact absurd e.symm T
    exact b j (by omega) e
   have:=b k (by omega) e.symm;rw [e,p] at this;cases this
theorem Qkd {R:List RN} {last:Int} (h:QE R last) (D:ZA R) {c:Int} (E:Qk R c) {p:NI} (F:Qc R c=p) (z:p.tag.toList.isEmpty=false) {m:List (ByteArray × ByteArray)} (B:Zw m) {f:Qd} (q:QeO f) (G:Zw p.ats) (H:∀ a,a ∈ p.ats↔a ∈ m/\Jy f.nm a.1 f.an=true) : ∀ k,k<=f.an->∃ R' A,Zv R last (QaO c (Q4 m) (Zq m) m.length f.nm f.vl k) R' last/\Qb0 R R' c { p with ats:=A }/\Zw A/\∀ a,a ∈ A↔∃ j,j<f.an/\a.1=f.nm j/\((j<k/\a.2=f.vl j) \/ (k<=j/\a ∈ m))
 | 0,_=>⟨R,p.ats,.nil ..,.refl F,G,λa=>by
  rw [H,QtR];constructor
  ·rintro ⟨l,j,i,e⟩;exact ⟨j,i,e.symm,.inr ⟨Nat.zero_le _,l⟩⟩
  rintro ⟨j,i,e,⟨g,_⟩|⟨_,g⟩⟩
  ·omega
  exact ⟨g,j,i,e.symm⟩⟩
 | k+1,hk=>by
  obtain ⟨R',A,u,o,s,v⟩:=Qkd h D E F z B q G H k (by omega);have r:k<f.an:=by omega
  cases x:J2 (Q4 m) (Zq m) (f.nm k) (f.vl k) m.length with
  | true =>
   have C:=QrS.1 x;refine ⟨R',A,by rw [QhB x];exact u,o,s,λa=>?_⟩;rw [v];constructor
   ·rintro ⟨j,i,e,⟨l,d⟩|⟨l,d⟩⟩
    ·exact ⟨j,i,e,.inl ⟨by omega,d⟩⟩
    by_cases n:j=k
    ·subst n;have:=Qio B d C e;exact ⟨j,i,e,.inl ⟨by omega,by rw [this]⟩⟩
    exact ⟨j,i,e,.inr ⟨by omega,d⟩⟩
   rintro ⟨j,i,e,⟨l,d⟩|⟨l,d⟩⟩
   ·by_cases n:j=k
    ·subst n;refine ⟨j,i,e,.inr ⟨Nat.le_refl _,?_⟩⟩;obtain ⟨T,U⟩:=a;simp only at e d;subst e d;exact C
    exact ⟨j,i,e,.inl ⟨by omega,d⟩⟩
   exact ⟨j,i,e,.inr ⟨by omega,d⟩⟩
  | false =>
   obtain ⟨M,a1⟩:=u.ok h D;have N:=(o.has c).2 E;obtain ⟨O,P⟩:=q.name k r;have L:(ZE A (f.nm k)).length<A.length \/ A.length<5:=by
    by_cases I:∃ b,b ∈ A/\b.1=f.nm k
    ·obtain ⟨b,hb,e⟩:=I;exact .inl (QjQ hb e)
    right;have:=Qry s q.rise (λa y=>by obtain ⟨j,i,e,_⟩:=(v a).1 y;exact ⟨(f.nm j,f.vl j),(Qii _).2 ⟨j,i,rfl⟩,e.symm⟩) (c:=(f.nm k,f.vl k)) ((Qii _).2 ⟨k,r,rfl⟩) (λa y e=>I ⟨a,y,e⟩);rw [Qdo] at this;have:=q.few;omega
   obtain ⟨V,W,X,J,Y,a0⟩:=Qti M N O (by rw [o.at'];exact z) P (by rw [o.at'];exact L);rw [o.at'] at J;refine ⟨_,ZZ A (f.nm k) (f.vl k),by rw [QgO x];exact u.app (by have K:=Zv.one V;rw [Y] at K;exact K),o.trans ⟨W,X,J,a0⟩,QfD s,λa=>?_⟩;rw [Qnm s,v];constructor
   ·rintro (rfl|⟨⟨j,i,e,g⟩,S⟩)
    ·exact ⟨k,r,rfl,.inl ⟨by omega,rfl⟩⟩
    have t:j≠k:=λn=>by subst n;exact S e
    rcases g with ⟨l,d⟩|⟨l,d⟩
    ·exact ⟨j,i,e,.inl ⟨by omega,d⟩⟩
    exact ⟨j,i,e,.inr ⟨by omega,d⟩⟩
   rintro ⟨j,i,e,g⟩;by_cases t:j=k
   ·subst t;rcases g with ⟨l,d⟩|⟨l,d⟩
    ·left;obtain ⟨T,U⟩:=a;simp only at e d;rw [e,d]
    omega
   right;refine ⟨⟨j,i,e,?_⟩,λn=>t (q.inj i r (by rw [<- e];exact n))⟩;rcases g with ⟨l,d⟩|⟨l,d⟩
   ·exact .inl ⟨by omega,d⟩
   exact .inr ⟨by omega,d⟩
theorem QuE {R:List RN} {last:Int} (h:QE R last) (m:ZA R) {c:Int} (n:Qk R c) {x:NI} (t:Qc R c=x) (l:x.tag.toList.isEmpty=false) (o:Zw x.ats) {b:Qd} (p:QeO b) : ∃ R',Zv R last (QaG c x b) R' last/\Qb0 R R' c { x with ats:=Zn b }:=by
 obtain ⟨G,A,q,i,u,v⟩:=QlA h m n t l o b.nm b.an x.ats.length (Nat.le_refl _);obtain ⟨r,s⟩:=q.ok h m;have y:∀ a,a ∈ A↔a ∈ x.ats/\Jy b.nm a.1 b.an=true:=λa=>by rw [v];refine ⟨λ⟨f,k⟩=>⟨f,?_⟩,λ⟨f,k⟩=>⟨f,λ_ _ _=>k⟩⟩;obtain ⟨j,d,rfl⟩:=getElem_of_mem f;exact k j d (Qe0 d).1
 obtain ⟨z,F,B,C,D,E⟩:=Qkd r s ((i.has c).2 n) i.at' l o p u y b.an (Nat.le_refl _);have e:F=Zn b:=Qup D p.rise λa=>by
  rw [E,Qii];constructor
  ·rintro ⟨j,d,e,⟨_,g⟩|⟨g,_⟩⟩
   ·refine ⟨j,d,?_⟩;obtain ⟨H,I⟩:=a;simp only at e g;rw [e,g]
   omega
  rintro ⟨j,d,rfl⟩;exact ⟨j,d,rfl,.inl ⟨d,rfl⟩⟩
 subst e;refine ⟨z,?_,i.trans C⟩;unfold QaG;exact q.app B
theorem Qw.trans {T:Int->NI} {i j k:Int} (h:Qw T i j) (a:Qw T j k):Qw T i k:=by induction h with| self=>exact a| step b _ ih=>exact .step b (ih a)
theorem Qw.snoc {T:Int->NI} {i j k:Int} (h:Qw T i j) (a:k ∈ (T j).kids):Qw T i k:=h.trans (.step a (.self _))
theorem Qw.zlast {T:Int->NI} {i j:Int} (h:Qw T i j):j=i \/ ∃ p,Qw T i p/\j ∈ (T p).kids:=by
 induction h with
 | self=>exact .inl rfl
 | @step i k j a d ih =>
  rcases ih with e|⟨p,b,c⟩
  ·subst e;exact .inr ⟨i,.self _,a⟩
  exact .inr ⟨p,.step a b,c⟩
theorem Qw.keep {T a:Int->NI} {i j:Int} (h:Qw T i j) (b:∀ p,Qw T i p->a p=T p):Qw a i j:=by induction h with| self=>exact .self _| @step i k j c _ ih =>refine .step (k:=k) (by rw [b i (.self _)];exact c) (ih λp d=>b p (.step c d))
theorem Qw.back {T a:Int->NI} {i j:Int} (h:Qw a i j) (b:∀ p,Qw T i p->a p=T p):Qw T i j:=by
 induction h with
 | self=>exact .self _
 | @step i k j d _ ih =>
  have c:k ∈ (T i).kids:=by rw [<- b i (.self _)];exact d
  exact .step c (ih λp f=>b p (.step c f))
theorem Qe4 {R:List RN} (b:Qp R) {i k:Int} (c:Qk R i) (a:k ∈ (Qc R i).kids):∃ n,n ∈ R/\n.par=i/\n.id=k:=by rw [Qc0 b c] at a;exact Qaz.1 a
theorem Jz {R:List RN} (a:Qp R) {i k:Int} (b:Qk R i) (c:k ∈ (Qc R i).kids):Qk R k:=by obtain ⟨n,d,_,e⟩:=Qe4 a b c;exact ⟨n,d,e⟩
theorem Qfy {R:List RN} (a:Qp R) {i b k:Int} (f:Qk R i) (c:Qk R b) (g:k ∈ (Qc R i).kids) (d:k ∈ (Qc R b).kids):i=b:=by obtain ⟨n,h,j,l⟩:=Qe4 a f g;obtain ⟨m,o,p,q⟩:=Qe4 a c d;have:=Qg5 a h o (by rw [l,q]);rw [<- j,<- p,this]
theorem Qa9 {R:List RN} (b:Qp R) {i j:Int} (a:Qk R i) (h:Qw (Qc R) i j):Qk R j:=by induction h with| self=>exact a| step c _ ih=>exact ih (Jz b a c)
theorem Qfu {R:List RN} {rk:Int->Nat} (a:Qp R) (c:Up R rk) {i k:Int} (b:Qk R i) (d:k ∈ (Qc R i).kids):rk i<rk k:=by obtain ⟨n,f,g,h⟩:=Qe4 a b d;have j:=Qbf a b;have:=c.rank n f (by omega);rw [g,h] at this;exact this
theorem QlG {R:List RN} {rk:Int->Nat} (a:Qp R) (d:Up R rk) {i j:Int} (b:Qk R i) (h:Qw (Qc R) i j):rk i<=rk j:=by induction h with| self=>exact Nat.le_refl _| step c _ ih =>have:=Qfu a d b c;have:=ih (Jz a b c);omega
theorem Qlw {R:List RN} {rk:Int->Nat} (a:Qp R) (f:Up R rk) {i b:Int} (g:Qk R i) (c:Qk R b):∀ (r:Nat) (j:Int),rk j<=r->Qw (Qc R) i j->Qw (Qc R) b j->Qw (Qc R) i b \/ Qw (Qc R) b i
 | r,j,hr,h,h'=>by
  rcases h.zlast with e|⟨p,k,l⟩
  ·subst e;exact .inr h'
  ·rcases h'.zlast with e|⟨s,d,n⟩
   ·subst e;exact .inl h
   ·have m:=Qa9 a g k
    have o:=Qa9 a c d
    have e:=Qfy a m o l n
    subst e
    have q:=Qfu a f m l
    match r with
    | 0=>omega
    | r+1=>exact Qlw a f g c r p (by omega) k d
theorem QhR {R:List RN} {last:Int} (h:QE R last) {i c f j:Int} (g:Qk R i) (l:c ∈ (Qc R i).kids) (k:f ∈ (Qc R i).kids) (n:c≠f) (u:Qw (Qc R) c j) (v:Qw (Qc R) f j):False:=by
 obtain ⟨rk,m⟩:=h.up;have d:=h.ids;have key:∀ a b,a ∈ (Qc R i).kids->b ∈ (Qc R i).kids->a≠b->Qw (Qc R) a b->False:=λa b o hb s x=>by
  have q:=Jz d g o;rcases x.zlast with e|⟨p,r,t⟩
  ·exact s e.symm
  have e:=Qfy d (Qa9 d q r) g t hb;subst e;have:=QlG d m q r;have:=Qfu d m g o;omega
 rcases Qlw d m (Jz d g l) (Jz d g k) (rk j) j (Nat.le_refl _) u v with e|e
 ·exact key c f l k n e
 exact key f c k l (λe=>n e.symm) e
theorem Qcy {R:List RN} {last:Int} (h:QE R last) {i c:Int} (a:Qk R i) (b:c ∈ (Qc R i).kids):¬ Qw (Qc R) c i:=λf=>by obtain ⟨rk,d⟩:=h.up;have:=QlG h.ids d (Jz h.ids a b) f;have:=Qfu h.ids d a b;omega
theorem Qlv {R:List RN} {last:Int} (h:QE R last) {c:Int} (d:c≠0):∀ (m:Nat) (x:Int),Qk R x->Zp R m x=c->Qw (Qc R) c x
 | 0,x,_,e=>by have e:x=c:=e;subst e;exact .self _
 | m+1,x,hx,e=>by
  have a:=h.ids;obtain ⟨rk,l⟩:=h.up;have r:=Qbf a hx;obtain ⟨k,b,g,i⟩:=Qc6 a hx;have n:upP R x=R[k].par:=by unfold upP Qdl;rw [if_neg (by omega),i,Int.toNat_natCast,QbA b]
  rw [Zp,n] at e;rcases l.par R[k] (getElem_mem b) with o|⟨p,q,j⟩
  ·rw [o,QdT] at e;exact absurd e.symm d
  have f:Qk R R[k].par:=⟨p,q,j⟩;refine (Qlv h d m R[k].par f e).snoc ?_;rw [Qc0 a f];exact Qaz.2 ⟨R[k],getElem_mem b,rfl,g⟩
theorem Qkk {R:List RN} {last:Int} (h:QE R last) {i c:Int} (a:Qk R i) (b:Qk R c) (d:¬ Qw (Qc R) c i):¬ QbQ R i c:=by rintro ⟨m,e⟩;exact d (Qlv h (by have:=Qbf h.ids b;omega) m i a e)
end Go.Proofs.YtobgcaemnpkbmaaGreatDoor
