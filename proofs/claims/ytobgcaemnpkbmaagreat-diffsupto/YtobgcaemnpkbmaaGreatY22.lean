import Derived.Test.YtobgcaemnpkbmaaGreatY21
namespace Go.Proofs.YtobgcaemnpkbmaaGreat
set_option maxRecDepth 100000
set_option maxHeartbeats 8000000
open Go.RowKit List
variable {br:Br} {bf id last:Int} {T T':Int->NI} {ps:List (Nat × Nat)} {kk ks pr sk:List Int} {R R' R1 Rk:List RN} {y:NI} {f i j k m n p s sz:Nat} {A:Nat->ByteArray × Int} {L:Nat->Qd} {ln:Qd}
def Ja (ks pr:List Int) (k:Nat) (c:Int):Bool:=(List.range k).any λj=>(ks.getD j 0==c)&&!(pr.contains (j:Int))
theorem Qjg (ks pr:List Int) (k:Nat) (c:Int):Ja ks pr (k+1) c=(Ja ks pr k c||((ks.getD k 0==c)&&!(pr.contains (k:Int)))):=by unfold Ja;rw [range_succ,any_append];simp
theorem Qg7 {c:Int}:Ja ks pr k c=true↔∃ j,j<k/\ks.getD j 0=c/\pr.contains (j:Int)=false:=by
 unfold Ja;rw [any_eq_true];constructor
 ·rintro ⟨j,a,e⟩;simp only [Bool.and_eq_true,beq_iff_eq,Bool.not_eq_true'] at e;exact ⟨j,Xa6.1 a,e.1,e.2⟩
 rintro ⟨j,a,b,d⟩;refine ⟨j,Xa6.2 a,?_⟩;rw [b,d];simp
theorem QcO {l:List Int} (a:j<l.length):l.getD j 0 ∈ l:=by rw [Xg a];exact Xa0 _
theorem QhW {l:List Int} (d:l.Nodup) (b:i<l.length) (c:j<l.length) (e:l.getD i 0=l.getD j 0):i=j:=by
 rw [Xg b,Xg c] at e;have e:l[i]=l[j]:=e;rcases Nat.lt_trichotomy i j with a|a|a
 ·exact absurd e (Xb1.1 d i j b c a)
 ·exact a
 exact absurd e.symm (Xb1.1 d j i c b a)
theorem Qex (a:Qx R) {i:Int} (b:Qr R i):(Qc R i).kids.Nodup:=by rw [QdS a b];exact Qhz a i
theorem Qk7 (a:Qw R last) {i c:Int} (b:Qr R i) (d:c ∈ (Qc R i).kids):c≠1:=λe=>by obtain ⟨n,f,g,h⟩:=Qfh a.ids b d;obtain ⟨m,j,k,l⟩:=a.root;have:=QhF a.ids f j (by rw [h,k,e]);have o:=Qb8 a.ids b;rw [this] at g;omega
theorem Qk9 {R:List RN} {last:Int} (m:Qw R last) {id:Int} (d:Qr R id) {ks:List Int} (q:(Qc R id).kids=ks) (pr:List Int) : ∀ k,k<=ks.length->∃ R',ZQ R last (ZK (λj=>ks.getD j 0) pr k) R' last/\Qw R' last/\(∀ i,Qr R' i↔Qr R i/\∀ c,Ja ks pr k c=true->¬ QG (Qc R) c i)/\(∀ i,Qr R' i->i≠id->Qc R' i=Qc R i)/\Qr R' id/\Qc R' id={ Qc R id with kids:=ks.filter (λc=>!Ja ks pr k c) }/\R'.length<=R.length
 | 0,_=>by
  have e:ks.filter (λc=>!Ja ks pr 0 c)=ks:=by rw [filter_eq_self];intro c _;rfl
  refine ⟨R,.nil ..,m,λi=>⟨λs=>⟨s,λc b=>by cases b⟩,λs=>s.1⟩,λ_ _ _=>rfl,d,?_,X0⟩;rw [e,<- q]
 | k+1,hk=>by
  obtain ⟨R',H,y,u,z,A,I,J⟩:=Qk9 m d q pr k (by omega);have v:=m.ids;have T:ks.Nodup:=by rw [<- q];exact Qex v d
  cases t:pr.contains (k:Int) with
  | true =>
   have e:∀ c,Ja ks pr (k+1) c=Ja ks pr k c:=λc=>by rw [Qjg,t];simp
   refine ⟨R',by rw [QgH t];exact H,y,λi=>?_,z,A,?_,J⟩
   ·rw [u];simp only [e]
   rw [I];simp only [e]
  | false =>
   have E:k<ks.length:=by omega
   generalize r:ks.getD k 0=a;have P:a ∈ ks:=by rw [<- r];exact QcO E
   have n:a ∈ (Qc R id).kids:=by rw [q];exact P
   have S:∀ c,Ja ks pr k c=true->c ∈ (Qc R id).kids/\c≠a:=λc b=>by obtain ⟨j,W,o,_⟩:=Qg7.1 b;refine ⟨by rw [q,<- o];exact QcO (by omega),λB=>?_⟩;have:=QhW T (show j<ks.length by omega) E (by rw [o,r,B]);omega
   have x:∀ p,QG (Qc R) a p->Qr R' p/\Qc R' p=Qc R p:=λp l=>by have K:Qr R' p:=(u p).2 ⟨QbR v (Qai v d n) l,λc b g=>by obtain ⟨f,h⟩:=S c b;exact QiI m d f n h g l⟩;exact ⟨K,z p K λe=>by subst e;exact Qc3 m d n l⟩
   have D:∀ i,QG (Qc R') a i↔QG (Qc R) a i:=λi=>⟨λg=>g.back λp l=>(x p l).2,λg=>g.keep λp l=>(x p l).2⟩;obtain ⟨L,C,M,N,U⟩:=QqV y (x a (.self _)).1 (Qk7 m d n);have g:=y.did L;rw [N] at g;have F:¬ QG (Qc R') a id:=λe=>Qc3 m d n ((D id).1 e);have o:∀ c,Ja ks pr (k+1) c=true↔Ja ks pr k c=true \/ c=a:=λc=>by rw [Qjg,t,r];simp only [Bool.or_eq_true,Bool.and_eq_true,beq_iff_eq,Bool.not_false,and_true];exact or_congr Iff.rfl eq_comm
   refine ⟨_,by rw [Qg9 t];exact H.app (by have O:=ZQ.one L;rw [N] at O;simp only [r];exact O),g,λi=>?_,λi s G=>?_,?_,?_,Xb6 U J⟩
   ·rw [C,u,D];constructor
    ·rintro ⟨⟨f,h⟩,V⟩;refine ⟨f,λc b=>?_⟩;rcases (o c).1 b with e|e
     ·exact h c e
     rw [e];exact V
    rintro ⟨f,h⟩;exact ⟨⟨f,λc b=>h c ((o c).2 (.inl b))⟩,h a ((o a).2 (.inr rfl))⟩
   ·obtain ⟨f,h⟩:=(C i).1 s;rw [M i f h,z i f G];have:(Qc R i).kids.filter (λj=>j !=a)=(Qc R i).kids:=by
     rw [filter_eq_self];intro c b;have:c≠a:=λe=>by subst e;exact G (Qg2 v ((u i).1 f).1 d b n)
     simpa using this
    rw [this]
   ·exact (C id).2 ⟨A,F⟩
   rw [M id A F,I];have:(ks.filter (λc=>!Ja ks pr k c)).filter (λj=>j !=a)=ks.filter (λc=>!Ja ks pr (k+1) c):=by rw [filter_filter];refine filter_congr λc _=>?_;rw [Qjg,t,r];have B:(a==c)=(c==a):=BEq.comm;rw [B];cases Ja ks pr k c<;>simp [bne]
   simp only [this]
def Qmb (T:Int->NI) (L:Nat->Qd) (br:Br) (f:Nat):Prop :=
 ∀ (R:List RN) (last id:Int) (x:NI) (s n:Nat),Qw R last->Zw R->n<=f->Jd L s n->Qr R id->Qc R id=x->QcH x->x.tag=(L s).t->x.key=(L s).k->R.length+n<=801->(∀ j,QG (Qc R) id j->j≠id->Qc R j=T j) ->
 ∃ R',ZQ R last (br id x s n last).1 R' (br id x s n last).2/\QaO R' L f id s n/\(∀ j,Qr R j->¬ QG (Qc R) id j->Qr R' j/\Qc R' j=Qc R j/\¬ QG (Qc R') id j)/\(∀ j,Qr R' j->(Qr R j/\¬ QG (Qc R) id j) \/ QG (Qc R') id j)/\R'.length+1<=R.length+n/\QcT R' T L f id x.kids s n
structure JB (T:Int->NI) (L:Nat->Qd) (R:List RN) (id:Int) (y:NI) (ks pr:List Int) (s:Nat) (ps:List (Nat × Nat)) (f kt kp sz:Nat) (Rk:List RN) (kk proc sk:List Int):Prop where
 hid:Qr Rk id
 ni:Qc Rk id={ y with kids:=kk }
 len:proc.length=kp
 filt:kk.filter (λb=>proc.contains b||sk.contains b)=proc++sk
 mem:∀ b,b ∈ kk->b ∈ proc \/ ∃ j,kp<=j/\j<ps.length/\pr.getD j 0≠-1/\b=ks.getD (pr.getD j 0).toNat 0
 pend:∀ j,kp<=j->j<ps.length->pr.getD j 0≠-1->ks.getD (pr.getD j 0).toNat 0 ∈ kk/\ks.getD (pr.getD j 0).toNat 0 ∉ proc/\∀ i,QG (Qc Rk) (ks.getD (pr.getD j 0).toNat 0) i->Qc Rk i=T i
 tree:∀ j,j<kt->QaO Rk L f (proc.getD j 0) (s+(ps.getD j (0,0)).1) ((ps.getD j (0,0)).2-(ps.getD j (0,0)).1)
 pairs:∀ j,j<kp->pr.getD j 0≠-1->proc.getD j 0=ks.getD (pr.getD j 0).toNat 0
 keeps:∀ j,j<kt->pr.getD j 0≠-1->QcT Rk T L f (proc.getD j 0) (T (proc.getD j 0)).kids (s+(ps.getD j (0,0)).1) ((ps.getD j (0,0)).2-(ps.getD j (0,0)).1)
 frame:∀ j,Qr R j->¬ QG (Qc R) id j->Qr Rk j/\Qc Rk j=Qc R j/\¬ QG (Qc Rk) id j
 cover:∀ j,Qr Rk j->(Qr R j/\¬ QG (Qc R) id j) \/ QG (Qc Rk) id j
 size:Rk.length<=R.length+sz
theorem JB.kids {T:Int->NI} {L:Nat->Qd} {R:List RN} {id:Int} {j:NI} {ks pr:List Int} {s:Nat} {ps:List (Nat × Nat)} {f d g h:Nat} {a:List RN} {b c i:List Int} (k:JB T L R id j ks pr s ps f d g h a b c i):(Qc a id).kids=b:=by rw [k.ni]
theorem JB.inn {c d:Nat} {a:List Int} (h:JB T L R id y ks pr s ps f c d sz Rk kk a sk) {b:Int} (g:b ∈ a \/ b ∈ sk):b ∈ kk:=by
 have:b ∈ a++sk:=by rcases g with e|e;exact mem_append_left _ e;exact mem_append_right _ e
 rw [<- h.filt] at this;exact (Xa7.1 this).1
theorem JY {i j:Int}:QG T i j↔j=i \/ ∃ c,c ∈ (T i).kids/\QG T c j:=by
 constructor
 ·intro d;cases d with| self=>exact .inl rfl| step a b=>exact .inr ⟨_,a,b⟩
 rintro (e|⟨c,a,b⟩)
 ·subst e;exact .self _
 exact .step a b
theorem JB.brought {l:Int} {m:List Int} {c:Int} (d:JB T L R id y ks pr s ps f k (k+1) sz Rk kk (m++[c]) sk) (H:Qw Rk l) (a4:QaO R' L f c (s+(ps.getD k (0,0)).1) ((ps.getD k (0,0)).2-(ps.getD k (0,0)).1)) (J:∀ j,Qr Rk j->¬ QG (Qc Rk) c j->Qr R' j/\Qc R' j=Qc Rk j/\¬ QG (Qc R') c j) (a5:∀ j,Qr R' j->(Qr Rk j/\¬ QG (Qc Rk) c j) \/ QG (Qc R') c j) (Y:pr.getD k 0≠-1->QcT R' T L f c (T c).kids (s+(ps.getD k (0,0)).1) ((ps.getD k (0,0)).2-(ps.getD k (0,0)).1)) {sz':Nat} (a6:R'.length<=R.length+sz') : JB T L R id y ks pr s ps f (k+1) (k+1) sz' R' kk (m++[c]) sk:=by
 have K:=H.ids;have o:=d.kids;have P:c ∈ kk:=d.inn (.inl (by simp));have F:c ∈ (Qc Rk id).kids:=by rw [o];exact P
 have O:m.length=k:=by have:=d.len;simp at this;exact this
 have W:¬ QG (Qc Rk) c id:=Qc3 H d.hid F;obtain ⟨a7,V,ac⟩:=J id d.hid W;have a0:kk.Nodup:=by rw [<- o];exact Qex K d.hid
 have X:((m++[c])++sk).Nodup:=by rw [<- d.filt];exact a0.filter _
 have S:c ∉ m:=λe=>by have:=(nodup_append.1 (nodup_append.1 X).1).2.2 c e c (by simp);exact this rfl
 -- a child other than c
 have v:∀ b,b ∈ kk->b≠c->∀ j,QG (Qc Rk) b j->Qr R' j/\Qc R' j=Qc Rk j/\¬ QG (Qc R') c j:=λb h q j n => J j (QbR K (Qai K d.hid (by rw [o];exact h)) n) λe=>QiI H d.hid (by rw [o];exact h) F q n e;have G:∀ b,b ∈ kk->b≠c->∀ j,QG (Qc R') b j↔QG (Qc Rk) b j:=λb h q j=>⟨λe=>e.back λp M=>(v b h q p M).2.1,λe=>e.keep λp M=>(v b h q p M).2.1⟩;have E:(Qc R' id).kids=kk:=by rw [V,o]
 refine ⟨a7,by rw [V];exact d.ni,d.len,d.filt,d.mem,λj a1 a2 C=>?_,λj n=>?_,d.pairs,λj n C=>?_,λj n a8=>?_,λj n=>?_,a6⟩
 ·obtain ⟨r,u,z⟩:=d.pend j a1 a2 C;have q:ks.getD (pr.getD j 0).toNat 0≠c:=λe=>u (by rw [e];simp);refine ⟨r,u,λi A=>?_⟩;have U:=(G _ r q i).1 A;rw [(v _ r q i U).2.1];exact z i U
 ·by_cases e:j=k
  ·subst e;have:(m++[c]).getD j 0=c:=by rw [getD_eq_getElem?_getD,<- O,getElem?_append_right X0];simp
   rw [this];exact a4
  have x:j<m.length:=by omega
  have h:(m++[c]).getD j 0 ∈ m:=by rw [getD_eq_getElem?_getD,getElem?_append_left x,getElem?_eq_getElem x];exact Xa0 _
  have I:(m++[c]).getD j 0 ∈ kk:=d.inn (.inl (mem_append_left _ h));refine (d.tree j (by omega)).keep λi A=>?_;have:=v _ I (λB=>S (by rw [<- B];exact h)) i A;exact ⟨this.1,this.2.1⟩
 ·by_cases e:j=k
  ·subst e;have:(m++[c]).getD j 0=c:=by rw [getD_eq_getElem?_getD,<- O,getElem?_append_right X0];simp
   rw [this];exact Y C
  have x:j<m.length:=by omega
  have h:(m++[c]).getD j 0 ∈ m:=by rw [getD_eq_getElem?_getD,getElem?_append_left x,getElem?_eq_getElem x];exact Xa0 _
  have I:(m++[c]).getD j 0 ∈ kk:=d.inn (.inl (mem_append_left _ h));exact (d.keeps j (by omega) C).keep λi A=>(v _ I (λB=>S (by rw [<- B];exact h)) i A).2.1
 ·obtain ⟨r,u,z⟩:=d.frame j n a8;have a3:¬ QG (Qc Rk) c j:=λe=>z (JY.2 (.inr ⟨c,F,e⟩));obtain ⟨a9,aa,ab⟩:=J j r a3;refine ⟨a9,aa.trans u,λe=>?_⟩;rcases JY.1 e with N|⟨b,h,t⟩
  ·exact z (by rw [N];exact .self _)
  rw [E] at h;by_cases D:b=c
  ·rw [D] at t;exact ab t
  exact z (JY.2 (.inr ⟨b,by rw [o];exact h,(G b h D j).1 t⟩))
 rcases a5 j n with ⟨r,u⟩|g
 ·rcases d.cover j r with e|e
  ·exact .inl e
  right;rcases JY.1 e with N|⟨b,h,t⟩
  ·rw [N];exact .self _
  rw [o] at h;have D:b≠c:=λB=>by rw [B] at t;exact u t
  exact JY.2 (.inr ⟨b,by rw [E];exact h,(G b h D j).2 t⟩)
 exact .inr (JY.2 (.inr ⟨c,by rw [E];exact P,g⟩))
theorem QiW {P:Int->Bool} {c:Int}:∀ (l A B:List Int),l.filter P=A++c::B->c ∉ A->(l.takeWhile (λi=>i !=c)).filter P=A/\(l.dropWhile (λi=>i !=c)).filter P=c::B
 | [],A,B,e,_=>by have:=congrArg List.length e;simp at this
 | a::l,A,B,e,hA=>by
  by_cases f:a=c
  ·subst f;have j:A=[]:=by
    cases A with
    | nil=>rfl
    | cons b A =>
     have k:b=a:=by
      by_cases d:P a=true
      ·rw [filter_cons_of_pos d] at e;exact ((List.cons.inj e).1).symm
      rw [filter_cons_of_neg d] at e;have g:a ∈ l.filter P:=by rw [e];simp
      exact absurd (Xa7.1 g).2 d
     exact absurd (by rw [k];simp) hA
   subst j;simp only [nil_append] at e;simp [e]
  have h:(a !=c)=true:=by simpa using f
  rw [takeWhile_cons_of_pos (p:=λi=>i !=c) h,dropWhile_cons_of_pos (p:=λi=>i !=c) h];by_cases d:P a=true
  ·rw [filter_cons_of_pos d] at e ⊢;cases A with| nil=>exact absurd (List.cons.inj e).1 f| cons b A =>obtain ⟨m,n⟩:=List.cons.inj e;obtain ⟨o,q⟩:=QiW l A B n λg=>hA (Xa8 _ g);exact ⟨by rw [o,m],q⟩
  rw [filter_cons_of_neg d] at e ⊢;exact QiW l A B e hA
theorem Qvm {c:Int} {l:List Int} (b:Int):b ∈ QbU bf c l↔b=c \/ b ∈ l:=by
 unfold QbU;split
 ·simp [or_comm]
 rw [mem_append,mem_append,mem_singleton];have:b ∈ l↔b ∈ l.takeWhile (λi=>i !=bf) \/ b ∈ l.dropWhile (λi=>i !=bf):=by rw [<- mem_append,takeWhile_append_dropWhile]
 rw [this];constructor
 ·rintro ((a|a)|a)
  ·exact .inr (.inl a)
  ·exact .inl a
  exact .inr (.inr a)
 rintro (a|a|a)
 ·exact .inl (.inr a)
 ·exact .inl (.inl a)
 exact .inr a
def Qc6 (a:List Int):Int:=match a with
 | []=>0
 | h::_=>h
theorem Qry {a:List Int} {c:Int} (h:kk.filter (λb=>a.contains b||sk.contains b)=a++sk) (q:kk.Nodup) (o:∀ b,b ∈ kk->b≠0) (x:c ∉ a) (y:c ∉ sk) : (QbU (Qc6 sk) c (kk.filter (λj=>j !=c))).filter (λb=>(a++[c]).contains b||sk.contains b)=(a++[c])++sk:=by
 have r:a.contains c=false:=by simpa using x
 have s:sk.contains c=false:=by simpa using y
 have k:∀ l:List Int,(∀ b,b ∈ l->b≠c)->l.filter (λb=>(a++[c]).contains b||sk.contains b)=l.filter (λb=>a.contains b||sk.contains b):=λl z=>by refine filter_congr λb f=>?_;have:=z b f;simp [this]
 have n:(kk.filter (λj=>j !=c)).filter (λb=>a.contains b||sk.contains b)=a++sk:=by
  rw [<- h,filter_filter];refine filter_congr λb _=>?_;by_cases f:b=c
  ·subst f;rw [r,s];rfl
  have:(b !=c)=true:=by simpa using f
  rw [this,Bool.and_true]
 have g:∀ b,b ∈ kk.filter (λj=>j !=c)->b≠c:=λb f=>by have:=(Xa7.1 f).2;simpa using this
 have m:[c].filter (λb=>(a++[c]).contains b||sk.contains b)=[c]:=by simp
 unfold QbU;cases sk with
 | nil =>rw [if_pos (show Qc6 []=0 from rfl),filter_append,m,k _ g,n];simp
 | cons d t =>
  have p:d ∈ kk:=by
   have:d ∈ a++d::t:=by simp
   rw [<- h] at this;exact (Xa7.1 this).1
  have u:Qc6 (d::t)≠0:=o d p;rw [if_neg u];have v:d ∉ a:=λA=>by
   have B:(a++d::t).Nodup:=by rw [<- h];exact q.filter _
   exact (nodup_append.1 B).2.2 d A d (by simp) rfl
  obtain ⟨C,D⟩:=QiW _ a t n v;show (((kk.filter (λj=>j !=c)).takeWhile (λi=>i !=d))++[c]++((kk.filter (λj=>j !=c)).dropWhile (λi=>i !=d))).filter _=_;rw [filter_append,filter_append,m,k _ λb f=>g b ((takeWhile_sublist _).subset f),k _ λb f=>g b ((dropWhile_sublist _).subset f),C,D]
theorem JB.stay {g:List Int} {c:Int} (a:JB T L R id y ks pr s ps f k k sz Rk kk g (c::sk)) (m:c=ks.getD (pr.getD k 0).toNat 0) (o:∀ j,k<j->j<ps.length->pr.getD j 0≠-1->ks.getD (pr.getD j 0).toNat 0≠c) : JB T L R id y ks pr s ps f k (k+1) sz Rk kk (g++[c]) sk:=by
 have i:=a.len;refine ⟨a.hid,a.ni,by simp [i],?_,λb p=>?_,λj x l d=>?_,λj h=>?_,λj h d=>?_,λj h d=>?_,a.frame,a.cover,a.size⟩
 ·have e:kk.filter (λb=>(g++[c]).contains b||sk.contains b)=kk.filter (λb=>g.contains b||(c::sk).contains b):=filter_congr λb _=>by simp [Bool.or_assoc]
  rw [e,a.filt];simp
 ·rcases a.mem b p with e|⟨j,z,q,r,n⟩
  ·exact .inl (mem_append_left _ e)
  by_cases e:j=k
  ·subst e;left;rw [n,<- m];simp
  exact .inr ⟨j,by omega,q,r,n⟩
 ·obtain ⟨t,u,v⟩:=a.pend j (by omega) l d;refine ⟨t,λe=>?_,v⟩;rcases Xa4.1 e with e|e
  ·exact u e
  exact o j (by omega) l d (Xa2.1 e)
 ·have:=a.tree j h;rw [getD_eq_getElem?_getD,getElem?_append_left (by omega),<- getD_eq_getElem?_getD];exact this
 ·by_cases e:j=k
  ·subst e;rw [getD_eq_getElem?_getD,<- i,getElem?_append_right X0,i];simpa using m
  rw [getD_eq_getElem?_getD,getElem?_append_left (by omega),<- getD_eq_getElem?_getD];exact a.pairs j (by omega) d
 rw [getD_eq_getElem?_getD,getElem?_append_left (by omega),<- getD_eq_getElem?_getD];exact a.keeps j h d
theorem JB.put {Ri:List RN} {l:Int} {m:List Int} {c:Int} (h:JB T L R id y ks pr s ps f k k sz Rk kk m sk) (O:Qw Rk l) (D:∀ i,Qr Ri i↔Qr Rk i \/ i=c) (N:∀ i,Qr Rk i->i≠id->Qc Ri i=Qc Rk i) (P:Qc Ri id={ y with kids:=QbU (Qc6 sk) c (kk.filter (λj=>j !=c)) }) (I:(c ∈ kk/\(pr.getD k 0≠-1->c=ks.getD (pr.getD k 0).toNat 0)) \/ (¬ Qr Rk c/\¬ Qr R c/\(Qc Ri c).kids=[]/\pr.getD k 0=-1)) (a4:c ∉ m) (a5:c ∉ sk) (a1:∀ j,k<j->j<ps.length->pr.getD j 0≠-1->ks.getD (pr.getD j 0).toNat 0≠c) (ad:c ∈ kk->pr.getD k 0≠-1) {sz':Nat} (a7:Ri.length<=R.length+sz') : JB T L R id y ks pr s ps f k (k+1) sz' Ri (QbU (Qc6 sk) c (kk.filter (λj=>j !=c))) (m++[c]) sk:=by
 have r:=O.ids;have G:=h.kids;have H:=h.len;have a6:kk.Nodup:=by rw [<- G];exact Qex r h.hid
 have t:∀ b,b ∈ kk->b ∈ (Qc Rk id).kids:=λb a=>by rw [G];exact a
 have a2:∀ b,b ∈ kk->b≠0:=λb a=>by have:=Qb8 r (Qai r h.hid (t b a));omega
 have z:∀ b,b ∈ kk->∀ p,QG (Qc Rk) b p->Qc Ri p=Qc Rk p:=λb a p Y => N p (QbR r (Qai r h.hid (t b a)) Y) λe=>by subst e;exact Qc3 O h.hid (t b a) Y
 have E:∀ b,b ∈ kk->∀ j,QG (Qc Ri) b j↔QG (Qc Rk) b j:=λb a j=>⟨λe=>e.back (z b a),λe=>e.keep (z b a)⟩;have F:(Qc Ri id).kids=QbU (Qc6 sk) c (kk.filter (λj=>j !=c)):=by rw [P]
 have x:∀ b,b ∈ QbU (Qc6 sk) c (kk.filter (λj=>j !=c))↔b=c \/ b ∈ kk:=λb=>by
  rw [Qvm,mem_filter];constructor
  ·rintro (e|e)
   ·exact .inl e
   exact .inr e.1
  rintro (e|e)
  ·exact .inl e
  by_cases o:b=c
  ·exact .inl o
  exact .inr ⟨e,by simpa using o⟩
 have a3:Qr Ri id:=(D id).2 (.inl h.hid);refine ⟨a3,P,by simp [H],Qry h.filt a6 a2 a4 a5,λb a=>?_,λj ae S q=>?_,λj n=>?_,λj n q=>?_,λj n q=>?_,λj n a8=>?_,λj n=>?_,a7⟩
 ·rcases (x b).1 a with e|e
  ·left;rw [e];simp
  rcases h.mem b e with e|⟨j,af,a9,J,a0⟩
  ·exact .inl (mem_append_left _ e)
  by_cases o:j=k
  ·subst o;left;rcases I with ⟨_,g⟩|⟨_,_,_,g⟩
   ·rw [a0,<- g J];simp
   exact absurd g J
  exact .inr ⟨j,by omega,a9,J,a0⟩
 ·obtain ⟨u,K,B⟩:=h.pend j (by omega) S q;refine ⟨(x _).2 (.inr u),λe=>?_,λi v=>?_⟩
  ·rcases Xa4.1 e with e|e
   ·exact K e
   exact a1 j (by omega) S q (Xa2.1 e)
  have U:=(E _ u i).1 v;rw [z _ u i U];exact B i U
 ·have A:j<m.length:=by omega
  have a:m.getD j 0 ∈ m:=QcO A;have e:(m++[c]).getD j 0=m.getD j 0:=by rw [getD_eq_getElem?_getD,getElem?_append_left A,<- getD_eq_getElem?_getD]
  rw [e];have V:=h.inn (.inl a);exact (h.tree j n).keep λi v=>⟨(D i).2 (.inl (QbR r (Qai r h.hid (t _ V)) v)),z _ V i v⟩
 ·by_cases e:j=k
  ·subst e;rw [getD_eq_getElem?_getD,<- H,getElem?_append_right X0,H];rcases I with ⟨_,g⟩|⟨_,_,_,g⟩
   ·simpa using g q
   exact absurd g q
  rw [getD_eq_getElem?_getD,getElem?_append_left (by omega),<- getD_eq_getElem?_getD];exact h.pairs j (by omega) q
 ·have A:j<m.length:=by omega
  have a:m.getD j 0 ∈ m:=QcO A;have e:(m++[c]).getD j 0=m.getD j 0:=by rw [getD_eq_getElem?_getD,getElem?_append_left A,<- getD_eq_getElem?_getD]
  rw [e];exact (h.keeps j n q).keep λi v=>z _ (h.inn (.inl a)) i v
 ·obtain ⟨u,K,B⟩:=h.frame j n a8;have W:j≠id:=λe=>B (by rw [e];exact .self _);refine ⟨(D j).2 (.inl u),(N j u W).trans K,λe=>?_⟩;rcases JY.1 e with M|⟨b,a,C⟩
  ·exact W M
  rw [F] at a;rcases (x b).1 a with o|o
  ·subst o;rcases I with ⟨g,_⟩|⟨_,aa,ab,_⟩
   ·exact B (JY.2 (.inr ⟨b,t b g,(E b g j).1 C⟩))
   rcases JY.1 C with ac|⟨d,X,_⟩
   ·rw [ac] at n;exact aa n
   rw [ab] at X;cases X
  exact B (JY.2 (.inr ⟨b,t b o,(E b o j).1 C⟩))
 rcases (D j).1 n with g|g
 ·rcases h.cover j g with e|e
  ·exact .inl e
  right;rcases JY.1 e with M|⟨b,a,C⟩
  ·rw [M];exact .self _
  rw [G] at a;exact JY.2 (.inr ⟨b,by rw [F];exact (x b).2 (.inr a),(E b a j).2 C⟩)
 right;rw [g];exact JY.2 (.inr ⟨c,by rw [F];exact (x c).2 (.inl rfl),.self _⟩)
def Z6 (ks:List Int) (p:Int):Int:=ks.getD p.toNat 0
theorem QrS (ks:List Int) (a:List Int):JF ks a=Qc6 (a.map (Z6 ks)):=by cases a<;>rfl
theorem Qkx (a:k<pr.length):pr.drop k=pr.getD k 0::pr.drop (k+1):=by rw [drop_eq_getElem_cons a,Xg a];rfl
theorem Qtl {v:Int} (b:v ∈ pr.drop k):∃ j,k<=j/\j<pr.length/\pr.getD j 0=v:=by obtain ⟨i,a,rfl⟩:=Xa3 b;rw [length_drop] at a;refine ⟨k+i,by omega,by omega,?_⟩;rw [getElem_drop,Xg (by omega)];rfl
theorem QpB (a:Ze ln=true \/ Zx ln=true):ZZ (JP ln.t ln.k ln.x)=true:=by
 unfold ZZ;rcases a with a|a
 ·unfold Ze at a ⊢;simp only [Bool.and_eq_true] at a;simp only [JP,a.1.1.1,a.1.1.2,Bool.true_and,Bool.or_eq_true];left;rw [Bool.and_eq_true];exact ⟨a.1.2,by decide⟩
 unfold Zx at a ⊢;simp only [Bool.and_eq_true] at a;simp only [JP,a.1.1.1,a.2,Bool.true_and,Bool.or_eq_true,Bool.and_true];right;rw [Bool.and_eq_true];exact ⟨a.1.1.2,by decide⟩
structure Qcz (T:Int->NI) (L:Nat->Qd) (br:Br) (f:Nat) (R:List RN) (id:Int) (y:NI) (ks pr:List Int) (s n:Nat) (ps:List (Nat × Nat)):Prop where
 bring:Qmb T L br f
 fine:∀ i,QcH (T i)
 piece:Jd L s n
 parts:ps=Qe L s n
 plen:pr.length=ps.length
 fuel:n<=f+1
 tag:y.tag=(L s).t
 room:R.length+n<=801
 inj:∀ i j,i<ps.length->j<ps.length->pr.getD i 0≠-1->Z6 ks (pr.getD i 0)=Z6 ks (pr.getD j 0)->pr.getD j 0≠-1->i=j
 key:∀ j,j<ps.length->pr.getD j 0≠-1->(T (Z6 ks (pr.getD j 0))).tag=(L (s+(ps.getD j (0,0)).1)).t/\(T (Z6 ks (pr.getD j 0))).key=(L (s+(ps.getD j (0,0)).1)).k
theorem Qcz.span (F:Qcz T L br f R id y ks pr s n ps) (a:k<ps.length):Jd L (s+(ps.getD k (0,0)).1) ((ps.getD k (0,0)).2-(ps.getD k (0,0)).1)/\(1<=(ps.getD k (0,0)).1/\(ps.getD k (0,0)).1<(ps.getD k (0,0)).2/\(ps.getD k (0,0)).2<=n)/\Ze (L s)=true/\ZN ps k+((ps.getD k (0,0)).2-(ps.getD k (0,0)).1)+1<=n:=by
 have c:ps.getD k (0,0) ∈ ps:=by rw [Xg a];exact Xa0 _
 have b:=c;rw [F.parts] at b;obtain ⟨g,h,i⟩:=F.piece.part (by rw [<- F.parts] at b ⊢;exact c);refine ⟨g,h,i,?_⟩;have d:ZN ps (k+1)+1<=n:=by rw [F.parts];exact Qgk _ F.piece.pos (by rw [F.parts] at a;exact a)
 rw [ZN] at d;exact d
theorem Qcz.go (F:Qcz T L br f R id y ks pr s n ps) (m:k<ps.length) {a:List RN} {g:List Int} {c:Int} (b:JB T L R id y ks pr s ps f k (k+1) sz a kk (g++[c]) sk) (I:sz<=ZN ps k+1) {l:Int} (d:Qw a l) (o:Zw a) {x:NI} (p:Qc a c=x) (h:QcH x) (q:x.tag=(L (s+(ps.getD k (0,0)).1)).t) (r:x.key=(L (s+(ps.getD k (0,0)).1)).k) (u:∀ j,QG (Qc a) c j->j≠c->Qc a j=T j) (i:pr.getD k 0≠-1->x=T c) : ∃ R',ZQ a l (br c x (s+(ps.getD k (0,0)).1) ((ps.getD k (0,0)).2-(ps.getD k (0,0)).1) l).1 R' (br c x (s+(ps.getD k (0,0)).1) ((ps.getD k (0,0)).2-(ps.getD k (0,0)).1) l).2/\JB T L R id y ks pr s ps f (k+1) (k+1) (ZN ps (k+1)) R' kk (g++[c]) sk:=by obtain ⟨v,K,M,N⟩:=F.span m;have G:=F.room;have H:=b.size;have z:Qr a c:=Qai d.ids b.hid (by rw [b.kids];exact b.inn (.inl (by simp)));have J:=F.fuel;obtain ⟨R',A,B,C,D,O,E⟩:=F.bring a l c x _ _ d o (by omega) v z p h q r (by omega) u;refine ⟨R',A,b.brought d B C D (λe=>by rw [<- i e];exact E) ?_⟩;rw [ZN];omega
theorem Qcz.step (F:Qcz T L br f R id y ks pr s n ps) (B:k<ps.length) {af:List Int} {q:KS} (d:JB T L R id y ks pr s ps f k k (ZN ps k) Rk kk af (q.stay.map (Z6 ks))) (g:Qw Rk q.last) (au:Zw Rk) (Y:q.stay.Sublist (pr.drop k)) (aF:∀ v,v ∈ q.stay->v≠-1) (aP:∀ i,Qr R i->i<=q.last) : ∃ R' aU aN P,(Qbk br T L id ks s q (ps.getD k (0,0)) (pr.getD k 0)).pats=q.pats++P/\ZQ Rk q.last P R' (Qbk br T L id ks s q (ps.getD k (0,0)) (pr.getD k 0)).last/\JB T L R id y ks pr s ps f (k+1) (k+1) (ZN ps (k+1)) R' aU aN ((Qbk br T L id ks s q (ps.getD k (0,0)) (pr.getD k 0)).stay.map (Z6 ks))/\(Qbk br T L id ks s q (ps.getD k (0,0)) (pr.getD k 0)).stay.Sublist (pr.drop (k+1)):=by
 have u:=g.ids;have G:=d.kids;have aV:k<pr.length:=by rw [F.plen];exact B
 have aG:=Qkx aV;obtain ⟨aX,b3,aY,b4⟩:=F.span B;have b0:=F.room;have b1:=d.size;have ag:∀ c,c=Z6 ks (pr.getD k 0)->pr.getD k 0≠-1->∀ j,k<j->j<ps.length->pr.getD j 0≠-1->ks.getD (pr.getD j 0).toNat 0≠c:=λc E aa j aL A S e=>by have:=F.inj j k A B S (by rw [<- E];exact e) aa;omega
 have aA:(Qc Rk id).tag.toList.isEmpty=false:=by rw [d.ni];show y.tag.toList.isEmpty=false;rw [F.tag];exact (QeQ aY).1
 by_cases C:q.stay.head?=some (pr.getD k 0)
 · -- it stays
  cases l:q.stay with
  | nil=>rw [l] at C;cases C
  | cons p t =>
   have av:p=pr.getD k 0:=by rw [l] at C;simpa using C
   have o:pr.getD k 0≠-1:=by rw [<- av];exact aF p (by rw [l];simp)
   rw [Qdg C];have aZ:JB T L R id y ks pr s ps f k k (ZN ps k) Rk kk af (Z6 ks (pr.getD k 0)::t.map (Z6 ks)):=by have A:=d;rw [l,map_cons,av] at A;exact A
   have I:=aZ.stay rfl (ag _ rfl o);obtain ⟨ab,aw,U⟩:=d.pend k X0 B o;have N:=F.key k B o;obtain ⟨R',a2,a3⟩:=F.go B I (Nat.le_succ _) g au (U _ (.self _)) (F.fine _) N.1 N.2 (λj a4 _=>U j a4) (λ_=>rfl);refine ⟨R',kk,af++[Z6 ks (pr.getD k 0)],_,rfl,a2,?_,?_⟩
   ·show JB _ _ _ _ _ _ _ _ _ _ _ _ _ _ _ _ (q.stay.tail.map (Z6 ks));rw [l];exact a3
   show q.stay.tail.Sublist _;rw [l];rw [l,aG,av] at Y;exact (cons_sublist_cons.1 Y)
 -- it does not
 have ah:q.stay.Sublist (pr.drop (k+1)):=by rw [aG] at Y;cases l:q.stay with| nil=>exact nil_sublist _| cons a t =>rw [l] at Y C;cases Y with| cons _ A=>exact A| cons_cons _ A=>exact absurd rfl C
 have a8:JF ks q.stay=Qc6 (q.stay.map (Z6 ks)):=QrS ks q.stay;have ai:∀ b,b ∈ q.stay.map (Z6 ks)->b ∈ kk:=λb r=>d.inn (.inr r);by_cases o:pr.getD k 0=-1
 · -- a new one
  rw [Qdi C o];generalize E:q.last+1=c;generalize ao:L (s+(ps.getD k (0,0)).1)=h;have aB:Ze h=true \/ Zx h=true:=by have:=aX.node 0 (by omega);rw [Nat.add_zero,ao] at this;exact this
  have b2:=g.last_pos;have H:¬ Qr Rk c:=λ⟨m,I,e⟩=>by have:=g.top m I;omega
  have aQ:¬ Qr R c:=λe=>by have:=aP c e;omega
  obtain ⟨ac,ad,ax⟩:=QqK (R:=Rk) (last:=q.last) (by omega) (QpB aB);rw [E] at ac ad ax;have W:=g.did ac;rw [ad,ax] at W;have aH:=au.did u ac;rw [ad] at aH;have a0:=W.ids;generalize a9:Rk++[Qer ⟨1,c,0,0,h.k,h.t,⟨#[]⟩,h.x⟩]=J at *;have a6:∀ i,Qr J i↔Qr Rk i \/ i=c:=λi=>by rw [<- a9];exact Qos Rk _ i
  have a7:∀ i,Qr Rk i->Qc J i=Qc Rk i:=λi z=>by rw [<- a9] at a0 ⊢;exact QnY a0 u rfl z
  have aC:Qc J c=⟨h.k,h.t,h.x,[],[]⟩:=by rw [<- a9] at a0 ⊢;exact Qqz g a0 rfl E.symm
  have D:Qr J c:=(a6 c).2 (.inr rfl);have aj:Qr J id:=(a6 id).2 (.inl d.hid);have aD:id≠c:=λe=>H (by rw [<- e];exact d.hid);have ak:JF ks q.stay=0 \/ (JF ks q.stay≠c/\JF ks q.stay ∈ (Qc J id).kids):=by rw [a8,a7 id d.hid,G];cases l:q.stay with| nil=>exact .inl rfl| cons a t =>have a1:=ai (Z6 ks a) (by rw [l];simp);refine .inr ⟨λe=>?_,a1⟩;have e:Z6 ks a=c:=e;rw [e] at a1;exact H (Qai u d.hid (by rw [G];exact a1))
  obtain ⟨K,ae,V,a5,ay⟩:=QmJ W D (by omega) aj (by rw [a7 id d.hid];exact aA) ak (Qlk W aj D λe=>by
   rcases JY.1 e with e|⟨b,r,_⟩
   ·exact aD e
   rw [aC] at r;cases r)
  have X:=W.did K;rw [a5] at X;have ap:=aH.did a0 K;generalize aq:QN J ⟨2,c,id,JF ks q.stay,0,⟨#[]⟩,⟨#[]⟩,⟨#[]⟩⟩=Ri at *;have aR:∀ i,Qr Rk i->c ∉ (Qc Rk i).kids:=λi z aW=>H (Qai u z aW);have aS:∀ i,Qr Rk i->(Qc Rk i).kids.filter (λj=>j !=c)=(Qc Rk i).kids:=λi z=>by
   rw [filter_eq_self];intro b r;have:b≠c:=λe=>by rw [e] at r;exact aR i z r
   simpa using this
  have hni_c:Qc Ri c=⟨h.k,h.t,h.x,[],[]⟩:=by rw [V c D,aC,if_neg (λe=>aD e.symm)];rfl
  have I:=d.put (Ri:=Ri) (c:=c) g (λi=>(ae i).trans (a6 i)) (λi z O=>by
   rw [V i ((a6 i).2 (.inl z)),if_neg O,a7 i z,aS i z]) (by
   rw [V id aj,if_pos rfl,a7 id d.hid,d.ni,a8]) (.inr ⟨H,aQ,by rw [hni_c],o⟩) (λe=>H (Qai u d.hid (by rw [G];exact d.inn (.inl e)))) (λe=>H (Qai u d.hid (by rw [G];exact ai _ e))) (λj aL A S e=>H (by
    rw [<- e];exact Qai u d.hid (by rw [G];exact (d.pend j (by omega) A S).1))) (λe=>absurd (Qai u d.hid (by rw [G];exact e)) H) (sz':=ZN ps k+1) (by
    rw [ay,<- a9,length_append];show _+1<=_;omega)
  have aO:QcH ⟨h.k,h.t,h.x,[],[]⟩:=by
   refine ⟨List.Pairwise.nil,λe=>?_,λ_=>rfl⟩;rcases aB with az|az
   ·exact (QeQ az).2
   have:=(QeP az).1;rw [show h.t.toList.isEmpty=false from e] at this;cases this
  obtain ⟨R',a2,a3⟩:=F.go B I X0 X ap hni_c aO (by rw [ao]) (by rw [ao]) (λj a4 O=>by
   rcases JY.1 a4 with e|⟨b,r,_⟩
   ·exact absurd e O
   rw [hni_c] at r;cases r) (λe=>absurd o e)
  refine ⟨R',_,_,_,by simp only [append_assoc];rfl,?_,a3,ah⟩;refine ZQ.app (P:=[_]) (ZQ.one ac) ?_;rw [ad,ax];refine ZQ.app (P:=[_]) (ZQ.one K) ?_;rw [aq,a5];exact a2
 -- an old one
 rw [QdD C o];generalize E:Z6 ks (pr.getD k 0)=c;have ar:ks.getD (pr.getD k 0).toNat 0=c:=E;rw [ar];obtain ⟨ab,aw,U⟩:=d.pend k X0 B o;rw [ar] at ab aw U;have M:c ∈ (Qc Rk id).kids:=by rw [G];exact ab
 have D:=Qai u d.hid M;have aI:c ∉ q.stay.map (Z6 ks):=λe=>by obtain ⟨v,aM,aJ⟩:=Xa5.1 e;obtain ⟨j,aL,A,S⟩:=Qtl (ah.subset aM);rw [<- S] at aJ;exact ag c E.symm o j (by omega) (by rw [<- F.plen];exact A) (by rw [S];exact aF v aM) aJ
 have ak:JF ks q.stay=0 \/ (JF ks q.stay≠c/\JF ks q.stay ∈ (Qc Rk id).kids):=by rw [a8,G];cases l:q.stay with| nil=>exact .inl rfl| cons a t =>have a1:=ai (Z6 ks a) (by rw [l];simp);refine .inr ⟨λe=>aI ?_,a1⟩;have e:Z6 ks a=c:=e;rw [l,<- e];simp
 obtain ⟨K,ae,V,a5,ay⟩:=QmJ g D (Qk7 g d.hid M) d.hid aA ak (Qlk g d.hid D (Qc3 g d.hid M));have X:=g.did K;rw [a5] at X;have ap:=au.did u K;generalize aq:QN Rk ⟨2,c,id,JF ks q.stay,0,⟨#[]⟩,⟨#[]⟩,⟨#[]⟩⟩=Ri at *;have al:∀ i,Qr Rk i->i≠id->Qc Ri i=Qc Rk i:=λi z O=>by
  rw [V i z,if_neg O];have:(Qc Rk i).kids.filter (λj=>j !=c)=(Qc Rk i).kids:=by
   rw [filter_eq_self];intro b r;have:b≠c:=λe=>by rw [e] at r;exact O (Qg2 u z d.hid r M)
   simpa using this
  rw [this]
 have I:=d.put (Ri:=Ri) (c:=c) g (λi=>⟨λe=>.inl ((ae i).1 e),λe=>(ae i).2 (e.elim (λe=>e) λe=>by rw [e];exact D)⟩) al (by rw [V id d.hid,if_pos rfl,d.ni,a8]) (.inl ⟨ab,λ_=>ar.symm⟩) aw aI (ag c E.symm o) (λ_=>o) (sz':=ZN ps k+1) (by rw [ay];omega);have aT:c≠id:=λe=>Qc3 g d.hid M (by rw [e];exact .self _);have aE:∀ p,QG (Qc Rk) c p->Qc Ri p=Qc Rk p:=λp aa=>al p (QbR u D aa) λe=>by subst e;exact Qc3 g d.hid M aa
 have N:=F.key k B o;rw [E] at N;obtain ⟨R',a2,a3⟩:=F.go B I X0 X ap (by rw [al c D aT];exact U c (.self _)) (F.fine c) N.1 N.2 (λj a4 _=>by have aK:=a4.back aE;rw [aE j aK];exact U j aK) (λ_=>rfl);refine ⟨R',_,_,_,by simp only [append_assoc];rfl,?_,a3,ah⟩;refine ZQ.app (P:=[_]) (ZQ.one K) ?_;rw [aq,a5];exact a2
theorem QvU {l m:List Int} (c:l.Sublist m) (g:m.Nodup):m.filter (λb=>l.contains b)=l:=by
 induction c with
 | slnil=>rfl
 | @cons l m a c ih =>
  obtain ⟨d,f⟩:=nodup_cons.1 g;have:l.contains a=false:=by have:a ∉ l:=λe=>d (c.subset e);simpa using this
  rw [filter_cons_of_neg (by rw [this];simp)];exact ih f
 | @cons_cons l m a c ih =>
  obtain ⟨d,f⟩:=nodup_cons.1 g;rw [filter_cons_of_pos (by simp)];congr 1
  refine (filter_congr λb h=>?_).trans (ih f);have:b≠a:=λe=>by subst e;exact d h
  simp [this]
theorem Qsz (ks:List Int):(List.range ks.length).map (λj=>ks.getD j 0)=ks:=by refine ext_getElem (by simp) λi b a=>?_;simp [a]
theorem Qo9 (d:∀ v,v ∈ Q4 pr->∃ p:Nat,v=(p:Int)/\p<ks.length):((Q4 pr).map (Z6 ks)).Sublist ks:=by
 have h:=(Qhg pr).1;have i:((Q4 pr).map Int.toNat).Pairwise (λa b=>a<b):=by rw [pairwise_map];refine h.imp_of_mem fun {a b} f k o=>?_;obtain ⟨p,rfl,_⟩:=d a f;obtain ⟨q,rfl,_⟩:=d b k;simp only [Int.toNat_natCast];omega
 have l:((Q4 pr).map Int.toNat).Sublist (List.range ks.length):=QdM (lt:=λa b:Nat=>a<b) (λa=>Xc8 a) (λa b c=>Xc6) _ _ i pairwise_lt_range λa f=>by obtain ⟨v,m,rfl⟩:=Xa5.1 f;obtain ⟨p,rfl,n⟩:=d v m;simpa using n
 have g:=l.map (λj=>ks.getD j 0);rw [Qsz,map_map] at g;exact g
theorem QrO (A:Qw R last) (r:Qr R id) (V:Qc R id=y) (a2:y.kids=ks) (a4:∀ j,QG (Qc R) id j->j≠id->Qc R j=T j) (I:∀ v,v ∈ pr->v=-1 \/ ∃ p:Nat,v=(p:Int)/\p<ks.length) (F:∀ i,Qr R1 i↔Qr R i/\∀ c,Ja ks pr ks.length c=true->¬ QG (Qc R) c i) (W:∀ i,Qr R1 i->i≠id->Qc R1 i=Qc R i) (a5:Qr R1 id) (X:Qc R1 id={ Qc R id with kids:=ks.filter (λc=>!Ja ks pr ks.length c) }) (ac:R1.length<=R.length) (s f:Nat) (ps:List (Nat × Nat)) (aa:pr.length=ps.length) : JB T L R id y ks pr s ps f 0 0 0 R1 (ks.filter (λc=>!Ja ks pr ks.length c)) [] ((Q4 pr).map (Z6 ks)):=by
 have G:=A.ids;have B:(Qc R id).kids=ks:=by rw [V,a2]
 have M:ks.Nodup:=by rw [<- B];exact Qex G r
 have n:∀ b,b ∈ ks->b ∈ (Qc R id).kids:=λb a=>by rw [B];exact a
 have N:∀ p:Nat,p<ks.length->(p:Int) ∈ pr->Ja ks pr ks.length (ks.getD p 0)=false:=λp d h=>by
  cases e:Ja ks pr ks.length (ks.getD p 0) with
  | false=>rfl
  | true =>
   obtain ⟨j,g,m,q⟩:=Qg7.1 e;have:=QhW M g d m;subst this;have:pr.contains (j:Int)=true:=by simpa using h
   rw [this] at q;cases q
 have K:∀ c,Ja ks pr ks.length c=true->c ∈ ks:=λc l=>by obtain ⟨j,g,m,_⟩:=Qg7.1 l;rw [<- m];exact QcO g
 have O:∀ v,v ∈ Q4 pr->∃ p:Nat,v=(p:Int)/\p<ks.length:=λv z=>by obtain ⟨m,q⟩:=Qe1 z;exact (I v m).resolve_left q
 have C:∀ b,b ∈ ks->Ja ks pr ks.length b=false->∀ p,QG (Qc R) b p->Qr R1 p/\Qc R1 p=Qc R p:=λb a o p d=>by have Y:Qr R1 p:=(F p).2 ⟨QbR G (Qai G r (n b a)) d,λc l k=>QiI A r (n c (K c l)) (n b a) (λe=>by rw [e,o] at l;cases l) k d⟩;exact ⟨Y,W p Y λe=>by subst e;exact Qc3 A r (n b a) d⟩
 have D:∀ b,b ∈ ks->Ja ks pr ks.length b=false->∀ j,QG (Qc R1) b j↔QG (Qc R) b j:=λb a o j=>⟨λe=>e.back λp d=>(C b a o p d).2,λe=>e.keep λp d=>(C b a o p d).2⟩;have J:(Qc R1 id).kids=ks.filter (λc=>!Ja ks pr ks.length c):=by rw [X]
 refine ⟨a5,by rw [X,V],rfl,?_,λb a=>?_,λj _ ab a3=>?_,λj g=>absurd g (Xb7 _),λj g=>absurd g (Xb7 _),λj g=>absurd g (Xb7 _),λj g H=>?_,λj g=>?_,by omega⟩
 ·rw [nil_append,filter_filter];refine (filter_congr λb a=>?_).trans (QvU (Qo9 O) M);cases e:((Q4 pr).map (Z6 ks)).contains b with
  | false=>simp
  | true =>
   have h:b ∈ (Q4 pr).map (Z6 ks):=by simpa using e
   obtain ⟨v,z,rfl⟩:=Xa5.1 h;obtain ⟨p,rfl,d⟩:=O v z;have:=N p d (Qe1 z).1;have q:Z6 ks (p:Int)=ks.getD p 0:=by unfold Z6;rw [Int.toNat_natCast]
   rw [q,this];rfl
 ·right;obtain ⟨t,u⟩:=Xa7.1 a;obtain ⟨p,d,rfl⟩:=Xa3 t;have e:ks.getD p 0=ks[p]:=by rw [Xg d];rfl
  cases l:pr.contains (p:Int) with
  | false =>have:Ja ks pr ks.length ks[p]=true:=Qg7.2 ⟨p,d,e,l⟩;rw [this] at u;cases u
  | true =>
   have h:(p:Int) ∈ pr:=by simpa using l
   obtain ⟨j,g,a6⟩:=Xa3 h;have P:pr.getD j 0=(p:Int):=by rw [Xg g];exact a6
   exact ⟨j,X3,by omega,by rw [P];omega,by rw [P,Int.toNat_natCast,e]⟩
 ·have S:pr.getD j 0 ∈ pr:=QcO (by omega);obtain ⟨p,a0,d⟩:=(I _ S).resolve_left a3;rw [a0,Int.toNat_natCast];have o:=N p d (by rw [<- a0];exact S);have h:=QcO d;refine ⟨Xa7.2 ⟨h,by rw [o];rfl⟩,by simp,λi a7=>?_⟩;have E:=(D _ h o i).1 a7;rw [(C _ h o i E).2];exact a4 i (JY.2 (.inr ⟨_,n _ h,E⟩)) λe=>by subst e;exact Qc3 A r (n _ h) E
 ·have U:j≠id:=λe=>H (by rw [e];exact .self _);have a1:Qr R1 j:=(F j).2 ⟨g,λc l k=>H (JY.2 (.inr ⟨c,n c (K c l),k⟩))⟩;refine ⟨a1,W j a1 U,λe=>?_⟩;rcases JY.1 e with m|⟨b,a,k⟩
  ·exact U m
  rw [J] at a;obtain ⟨t,u⟩:=Xa7.1 a;have x:Ja ks pr ks.length b=false:=by simpa using u
  exact H (JY.2 (.inr ⟨b,n b t,(D b t x j).1 k⟩))
 obtain ⟨a8,a9⟩:=(F j).1 g;by_cases k:QG (Qc R) id j
 ·right;rcases JY.1 k with m|⟨b,a,k⟩
  ·rw [m];exact .self _
  rw [B] at a;have x:Ja ks pr ks.length b=false:=by cases e:Ja ks pr ks.length b with| false=>rfl| true=>exact absurd k (a9 b e)
  exact JY.2 (.inr ⟨b,by rw [J];exact Xa7.2 ⟨a,by rw [x];rfl⟩,(D b a x j).2 k⟩)
 exact .inl ⟨a8,k⟩
theorem Qcz.all {T:Int->NI} {L:Nat->Qd} {br:Br} {f:Nat} {R:List RN} {id:Int} {c:NI} {ks pr:List Int} {s n:Nat} {ps:List (Nat × Nat)} (F:Qcz T L br f R id c ks pr s n ps) {last:Int} {q0:KS} {a:List RN} {l:List Int} (g:ZQ R last q0.pats a q0.last) (q:JB T L R id c ks pr s ps f 0 0 0 a l [] (q0.stay.map (Z6 ks))) (m:Qw a q0.last) (r:Zw a) (o:q0.stay.Sublist pr) (p:∀ v,v ∈ q0.stay->v≠-1) (h:∀ i,Qr R i->i<=q0.last) (d:∀ k,k<=ps.length->q0.last<=(Zq br T L id ks s ps pr q0 k).last) : ∀ k,k<=ps.length->∃ b t j,ZQ R last (Zq br T L id ks s ps pr q0 k).pats b (Zq br T L id ks s ps pr q0 k).last/\JB T L R id c ks pr s ps f k k (ZN ps k) b t j ((Zq br T L id ks s ps pr q0 k).stay.map (Z6 ks))/\Qw b (Zq br T L id ks s ps pr q0 k).last/\Zw b/\(Zq br T L id ks s ps pr q0 k).stay.Sublist (pr.drop k)| 0,_=>⟨a,l,[],g,q,m,r,by rw [drop_zero];exact o⟩| k+1,hk=>by obtain ⟨b,t,j,B,C,u,x,D⟩:=Qcz.all F g q m r o p h d k (by omega);obtain ⟨R',A,z,P,E,y,G,H⟩:=F.step (by omega) C u x D (λv I=>p v (Qf3 br T L id ks s ps pr q0 k v I)) (λi J=>by have:=h i J;have:=d k (by omega);omega);obtain ⟨K,M⟩:=y.ok u x;refine ⟨R',A,z,?_,G,K,M,H⟩;show ZQ R last (Qbk br T L id ks s (Zq br T L id ks s ps pr q0 k) (ps.getD k (0,0)) (pr.getD k 0)).pats R' _;rw [E];exact B.app y
theorem JB.done {l:Int} {c:List Int} (d:JB T L R id y ks pr s ps f ps.length ps.length sz Rk kk c sk) (n:Qw Rk l):kk=c:=by
 have i:kk.Nodup:=by rw [<- d.kids];exact Qex n.ids d.hid
 have g:∀ b,b ∈ kk->b ∈ c:=λb h=>by
  rcases d.mem b h with e|⟨j,p,q,_⟩
  ·exact e
  omega
 have o:kk.filter (λb=>c.contains b||sk.contains b)=kk:=by
  rw [filter_eq_self];intro b h;have:c.contains b=true:=by simpa using g b h
  rw [this];rfl
 have k:kk=c++sk:=by rw [<- d.filt,o]
 cases m:sk with| nil=>rw [k,m,append_nil]| cons a t =>exfalso;rw [k,m] at i g;exact (nodup_append.1 i).2.2 a (g a (by simp)) a (by simp) rfl
theorem QG.kin {i j:Int} (d:QG T i j) (a:∀ p,QG T i p->(T' p).kids=(T p).kids):QG T' i j:=by induction d with| self=>exact .self _| @step i k j b _ ih =>refine .step (k:=k) (by rw [a i (.self _)];exact b) (ih λp c=>a p (.step b c))
theorem QG.kinb {i j:Int} (f:QG T' i j) (a:∀ p,QG T i p->(T' p).kids=(T p).kids):QG T i j:=by
 induction f with
 | self=>exact .self _
 | @step i k j c _ ih =>
  have b:k ∈ (T i).kids:=by rw [<- a i (.self _)];exact c
  exact .step b (ih λp d=>a p (.step b d))
theorem Qf8 (T:Int->NI) (L:Nat->Qd) (ks:List Int) (s:Nat) (ps:List (Nat × Nat)) (a:j<ps.length):(QE T L ks s ps).getD j 0=Qa8 (λj=>((T (ks.getD j 0)).tag,(T (ks.getD j 0)).key)) ks.length (λj=>((L (s+(ps.getD j (0,0)).1)).t,(L (s+(ps.getD j (0,0)).1)).k)) j:=by unfold QE QaJ;rw [getD_eq_getElem?_getD,getElem?_map,getElem?_range a];rfl
theorem QkJ {T:Int->NI} {L:Nat->Qd} (a3:∀ i,QcH (T i)) (N:∀ i,(T i).kids.length<=1000/\(T i).ats.length<=5):∀ f,Qmb T L (ZE T L f) f
 | 0=>λ_ _ _ _ _ _ _ _ aR az=>by have:=az.pos;omega
 | f+1=>λR last id x s n O a9 a4 r A aa ak J ai ah aA=>by
  have V:=O.ids;have a0:=r.node 0 r.pos;rw [Nat.add_zero] at a0;obtain ⟨h,ab,g⟩:=QtI O a9 A aa ak a0 J;obtain ⟨z,al⟩:=ab.ok O a9;have K:=(g.has id).2 A;have a2:∀ p,Qr R p->(Qc h p).kids=(Qc R p).kids:=λp l=>by
   by_cases e:p=id
   ·rw [e,g.at',aa]
   rw [g.rest p l e]
  have P:∀ j,QG (Qc h) id j↔QG (Qc R) id j:=λj=>⟨λe=>e.kinb λp l=>a2 p (QbR V A l),λe=>e.kin λp l=>a2 p (QbR V A l)⟩;have ao:∀ j,QG (Qc h) id j->j≠id->Qc h j=T j:=λj b D=>by have a5:=(P j).1 b;rw [g.rest j (QbR V A a5) D];exact aA j a5 D
  generalize W:({ x with text:=(L s).x,ats:=Zc (L s) }:NI)=Y at *;have a6:Y.kids=x.kids:=by rw [<- W]
  have a7:(Qc h id).kids=x.kids:=by rw [g.at',a6]
  have ap:x.kids.Nodup:=by rw [<- a7];exact Qex z.ids K
  generalize u:Qe L s n=ps at *;generalize B:QE T L x.kids s ps=pr at *;have a1:pr.length=ps.length:=by rw [<- B];exact QeT ..
  have I:∀ v,v ∈ pr->v=-1 \/ ∃ p:Nat,v=(p:Int)/\p<x.kids.length:=λv E=>by
   rw [<- B] at E;rcases QfQ E with e|⟨F,X⟩
   ·exact .inl e
   exact .inr ⟨v.toNat,by omega,by omega⟩
  have M:∀ j,j<ps.length->pr.getD j 0=Qa8 (λj=>((T (x.kids.getD j 0)).tag,(T (x.kids.getD j 0)).key)) x.kids.length (λj=>((L (s+(ps.getD j (0,0)).1)).t,(L (s+(ps.getD j (0,0)).1)).k)) j:=λj b=>by rw [<- B];exact Qf8 T L x.kids s ps b
  obtain ⟨aB,ac,aC,aD,aE,aF,aG,aH⟩:=Qk9 z K a7 pr x.kids.length X0;obtain ⟨_,aq⟩:=ac.ok z al;have ar:JB T L h id Y x.kids pr s ps f 0 0 0 aB (x.kids.filter (λc=>!Ja x.kids pr x.kids.length c)) [] ((Q4 pr).map (Z6 x.kids)):=QrO z K g.at' a6 ao I aD aE aF aG aH s f ps a1;have aj:=QfG (L:=L) N f;have au:Qcz T L (ZE T L f) f h id Y x.kids pr s n ps:=by
   refine ⟨QkJ a3 N f,a3,r,u.symm,a1,a4,by rw [<- W];exact J,by rw [g.len];exact ah,λi j C b av e S=>?_,λj b S=>?_⟩
   ·have aw:pr.getD i 0 ∈ pr:=QcO (by omega);have ax:pr.getD j 0 ∈ pr:=QcO (by omega);obtain ⟨p,ad,l⟩:=(I _ aw).resolve_left av;obtain ⟨q,ae,aI⟩:=(I _ ax).resolve_left S;unfold Z6 at e;rw [ad,ae,Int.toNat_natCast,Int.toNat_natCast] at e;have:=QhW ap l aI e;subst this;exact Qmm ((M i C).symm.trans ad) ((M j b).symm.trans ae) (by omega)
   obtain ⟨p,F,X,G,_⟩:=QfB (M j b).symm S;unfold Z6;rw [F,Int.toNat_natCast];have G:=Prod.ext_iff.1 G;exact ⟨G.1.symm,G.2.symm⟩
  have ay:Qad (ZE T L f) T L id x s n last=((Zq (ZE T L f) T L id x.kids s ps pr ⟨ZK (λj=>x.kids.getD j 0) pr x.kids.length,Q4 pr,last⟩ ps.length).pats,(Zq (ZE T L f) T L id x.kids s ps pr ⟨ZK (λj=>x.kids.getD j 0) pr x.kids.length,Q4 pr,last⟩ ps.length).last):=by unfold Qad;simp only [u,B]
  obtain ⟨H,y,aP,aJ,d,aK,aS,_⟩:=au.all (q0:=⟨ZK (λj=>x.kids.getD j 0) pr x.kids.length,Q4 pr,last⟩) ac ar aC aq (Qhg pr).2 (λv E=>(Qe1 E).2) (λi C=>by obtain ⟨m,aL,rfl⟩:=C;exact z.top m aL) (λk o=>(QgR aj N id x.kids s n a4 (λi C=>(QaW (r.node i C)).1) ps (λa af=>Qce r.pos (by rw [<- u] at af;exact af)) pr _ k o).2.1) ps.length X0;have U:=d.done aK;have aQ:ZN ps ps.length+1<=n:=by rw [<- u];exact Qgk _ r.pos X0
  refine ⟨H,?_,?_,λj b ag=>?_,λj b=>?_,?_,?_⟩
  ·show ZQ R last (Jo id x (L s)++JR id x (L s)++(Qad (ZE T L f) T L id x s n last).1) H (Qad (ZE T L f) T L id x s n last).2;rw [ay];exact ab.app aJ
  ·unfold QaO;rw [d.ni,u];rw [<- W];refine ⟨d.hid,J,ai,rfl,rfl,?_,λk o=>?_⟩
   ·show y.length=ps.length;rw [U];exact d.len
   show QaO H L f (y.getD k 0) _ _;rw [U];exact d.tree k o
  ·have D:j≠id:=λe=>ag (by rw [e];exact .self _);obtain ⟨aM,aN,aO⟩:=d.frame j ((g.has j).2 b) (λe=>ag ((P j).1 e));exact ⟨aM,aN.trans (g.rest j b D),aO⟩
  ·rcases d.cover j b with ⟨F,X⟩|e
   ·exact .inl ⟨(g.has j).1 F,λe=>X ((P j).2 e)⟩
   exact .inr e
  ·have:=d.size;have:=g.len;omega
  unfold QcT;rw [u,B,d.ni];intro k o a8;show y.getD k 0=_/\y.getD k 0 ∈ y/\QcT H T L f (y.getD k 0) _ _ _;rw [U];exact ⟨d.pairs k o a8,QcO (by rw [d.len];exact o),d.keeps k o a8⟩
def JS (j:Int) (P:List Qh):Nat:=P.countP λx=>x.kind==j
theorem Qa6 (j:Int) (P a:List Qh):JS j (P++a)=JS j P+JS j a:=by unfold JS;rw [countP_append]
theorem Qf2 (j:Int):JS j []=0:=rfl
theorem Qdd (j:Int) (x:Qh):JS j [x]=if x.kind=j then 1 else 0:=by
 unfold JS;by_cases a:x.kind=j
 ·simp [a]
 simp [a]
def QeW (br:Br) (T:Int->NI) (L:Nat->Qd) (ks:List Int) (s:Nat) (q:KS) (a:Nat × Nat) (p:Int):List Qh :=
 if p=-1 then (br (q.last+1) ⟨(L (s+a.1)).k,(L (s+a.1)).t,(L (s+a.1)).x,[],[]⟩ (s+a.1) (a.2-a.1) (q.last+1)).1 else (br (ks.getD p.toNat 0) (T (ks.getD p.toNat 0)) (s+a.1) (a.2-a.1) q.last).1
def Qcj (j:Int) (br:Br) (T:Int->NI) (L:Nat->Qd) (id:Int) (ks:List Int) (s:Nat) (ps:List (Nat × Nat)) (pr:List Int) (q:KS):Nat->Nat
 | 0=>0
 | k+1=>Qcj j br T L id ks s ps pr q k+JS j (QeW br T L ks s (Zq br T L id ks s ps pr q k) (ps.getD k (0,0)) (pr.getD k 0))
def QaN (pr:List Int) (k:Nat):Nat:=(pr.take k).countP λp=>p==-1
theorem Qh8 (a:k<pr.length):QaN pr (k+1)=QaN pr k+if pr.getD k 0=-1 then 1 else 0:=by
 unfold QaN;rw [take_succ_eq_append_getElem a,countP_append,Xg a];by_cases e:pr[k]=-1
 ·simp [e]
 simp [e]
theorem QjW {br:Br} {T:Int->NI} {L:Nat->Qd} {id:Int} {ks:List Int} {s:Nat} {ps:List (Nat × Nat)} {pr:List Int} {q:KS} (l:pr.length=ps.length) (f:q.stay.Sublist pr):∀ k,k<=ps.length->(Zq br T L id ks s ps pr q k).stay.Sublist (pr.drop k)
 | 0,_=>by rw [drop_zero];exact f
 | k+1,hk=>by
  have ih:=QjW (br:=br) (T:=T) (L:=L) (id:=id) (ks:=ks) (s:=s) l f k (by omega);have j:=Qkx (pr:=pr) (k:=k) (by omega);rw [Zq];generalize Zq br T L id ks s ps pr q k=c at *;rw [j] at ih;by_cases b:c.stay.head?=some (pr.getD k 0)
  ·rw [Qdg b];cases d:c.stay with
   | nil=>rw [d] at b;cases b
   | cons a t =>
    rw [d] at ih b;have e:a=pr.getD k 0:=by simpa using b
    rw [e] at ih;exact cons_sublist_cons.1 ih
  have g:c.stay.Sublist (pr.drop (k+1)):=by cases d:c.stay with| nil=>exact nil_sublist _| cons a t =>rw [d] at ih b;cases ih with| cons _ h=>exact h| cons_cons _ h=>exact absurd rfl b
  by_cases i:pr.getD k 0=-1
  ·rw [Qdi b i];exact g
  rw [QdD b i];exact g
theorem Qkp {br:Br} {T:Int->NI} {L:Nat->Qd} {id:Int} {ks:List Int} {s:Nat} {ps:List (Nat × Nat)} {pr:List Int} {q:KS} (u:pr.length=ps.length) (p:∀ v,v ∈ q.stay->v≠-1):∀ k,k<=ps.length->∃ g,g+q.stay.length=k+(Zq br T L id ks s ps pr q k).stay.length/\∀ j,JS j (Zq br T L id ks s ps pr q k).pats=JS j q.pats+Qcj j br T L id ks s ps pr q k+(if j=1 then QaN pr k else 0)+(if j=2 then g else 0)
 | 0,_=>⟨0,by simp [Zq],λj=>by
  have e:QaN pr 0=0:=by unfold QaN;simp
  simp [Zq,Qcj,e]⟩
 | k+1,hk=>by
  obtain ⟨g,A,m⟩:=Qkp (br:=br) (T:=T) (L:=L) (id:=id) (ks:=ks) (s:=s) u p k (by omega);have r:=Qf3 br T L id ks s ps pr q k;have h:=Qh8 (pr:=pr) (k:=k) (by omega);simp only [Qcj,Zq];generalize z:Zq br T L id ks s ps pr q k=c at *;by_cases b:c.stay.head?=some (pr.getD k 0)
  ·have d:pr.getD k 0≠-1:=by
    cases i:c.stay with
    | nil=>rw [i] at b;cases b
    | cons a t =>
     have e:a=pr.getD k 0:=by rw [i] at b;simpa using b
     rw [<- e];exact p a (r a (by rw [i];simp))
   have y:c.stay.tail.length+1=c.stay.length:=by cases i:c.stay with| nil=>rw [i] at b;cases b| cons a t=>simp
   have l:QaN pr (k+1)=QaN pr k:=by rw [h,if_neg d];rfl
   clear h;rw [Qdg b];refine ⟨g,by show _=_+c.stay.tail.length;omega,λj=>?_⟩;unfold QeW;rw [if_neg d,Qa6,m,l];omega
  by_cases d:pr.getD k 0=-1
  ·rw [if_pos d] at h;rw [Qdi b d];refine ⟨g+1,by show _=_+c.stay.length;omega,λj=>?_⟩;unfold QeW;rw [if_pos d,Qa6,Qa6,Qa6,m,h,Qdd,Qdd];by_cases n:j=1
   ·subst n;simp;omega
   by_cases f:j=2
   ·subst f;simp;omega
   have x:¬ (1:Int)=j:=λe=>n e.symm;have o:¬ (2:Int)=j:=λe=>f e.symm;simp only [if_neg n,if_neg f,if_neg x,if_neg o];omega
  have l:QaN pr (k+1)=QaN pr k:=by rw [h,if_neg d];rfl
  clear h;rw [QdD b d];refine ⟨g+1,by show _=_+c.stay.length;omega,λj=>?_⟩;unfold QeW;rw [if_neg d,Qa6,Qa6,m,l,Qdd];by_cases f:j=2
  ·subst f;simp;omega
  have o:¬ (2:Int)=j:=λe=>f e.symm;simp only [if_neg f,if_neg o];omega
theorem QmK (b:Nat->Int) (l:List Int) (j:Int):∀ k,JS j (ZK b l k)=if j=3 then ((List.range k).countP λi:Nat=>!l.contains (i:Int)) else 0
 | 0=>by simp [ZK,Qf2]
 | k+1=>by
  have ih:=QmK b l j k;rw [range_succ,countP_append];cases a:l.contains (k:Int) with
  | true =>
   rw [QgH a,ih];have:[k].countP (λi:Nat=>!l.contains (i:Int))=0:=by simp only [countP_singleton,a];rfl
   rw [this];rfl
  | false =>
   rw [Qg9 a,Qa6,ih,Qdd];have:[k].countP (λi:Nat=>!l.contains (i:Int))=1:=by simp only [countP_singleton,a];rfl
   rw [this];by_cases e:j=3
   ·subst e;simp
   rw [if_neg e,if_neg e,if_neg (λc=>e c.symm)]
theorem QjT (br:Br) (T:Int->NI) (L:Nat->Qd) (id:Int) (x:NI) (s n:Nat) (last:Int) (j:Int) (pr:List Int) (ps:List (Nat × Nat)) (g:Qe L s n=ps) (b:QE T L x.kids s ps=pr) : JS j (Qad br T L id x s n last).1=(if j=3 then ((List.range x.kids.length).countP λi:Nat=>!pr.contains (i:Int)) else 0)+Qcj j br T L id x.kids s ps pr ⟨ZK (λj=>x.kids.getD j 0) pr x.kids.length,Q4 pr,last⟩ ps.length+(if j=1 then QaN pr ps.length else 0)+(if j=2 then ps.length-(Q4 pr).length else 0):=by
 have a:pr.length=ps.length:=by rw [<- b];exact QeT ..
 have d:=QjW (br:=br) (T:=T) (L:=L) (id:=id) (ks:=x.kids) (s:=s) (q:=⟨ZK (λj=>x.kids.getD j 0) pr x.kids.length,Q4 pr,last⟩) a (Qhg pr).2 ps.length X0;rw [<- a,drop_length] at d;have c:=sublist_nil.1 d;rw [a] at c;obtain ⟨h,f,k⟩:=Qkp (br:=br) (T:=T) (L:=L) (id:=id) (ks:=x.kids) (s:=s) (q:=⟨ZK (λj=>x.kids.getD j 0) pr x.kids.length,Q4 pr,last⟩) a (λv l=>(Qe1 l).2) ps.length X0;rw [c] at f;simp only [length_nil,Nat.add_zero] at f;have e:h=ps.length-(Q4 pr).length:=by omega
 have m:(Qad br T L id x s n last).1=(Zq br T L id x.kids s ps pr ⟨ZK (λj=>x.kids.getD j 0) pr x.kids.length,Q4 pr,last⟩ ps.length).pats:=by unfold Qad;simp only [g,b]
 rw [m,k,e,QmK]
structure QjN (R:List RN) (w:Nat × Int) (ln:Qd):Prop where
 lt:w.1<R.length
 d:w.2=ln.d
 tag:(JZ R w.1).tag=ln.t
 key:(JZ R w.1).key=ln.k
 text:(JZ R w.1).text=ln.x
 ats:(JZ R w.1).ats=Zc ln
def QaK (R:List RN) (L:Nat->Qd):List (Nat × Int)->Nat->Prop
 | [],_=>True
 | w::W,s=>QjN R w (L s)/\QaK R L W (s+1)
theorem QaK.app {R:List RN} {L:Nat->Qd}:∀ {a b:List (Nat × Int)} {s:Nat},QaK R L a s->QaK R L b (s+a.length)->QaK R L (a++b) s| [],_,_,_,h=>by simpa using h| w::a,b,s,⟨h1,h2⟩,h=>⟨h1,QaK.app h2 (by rw [show s+1+a.length=s+(w::a).length by simp;omega];exact h)⟩
theorem QaK.get {R:List RN} {L:Nat->Qd}:∀ {a:List (Nat × Int)} {s:Nat},QaK R L a s->∀ i,(b:i<a.length)->QjN R a[i] (L (s+i))| w::a,s,⟨h1,_⟩,0,_=>h1| w::a,s,⟨_,h2⟩,i+1,b=>by have:=QaK.get h2 i (by simpa using b);rw [show s+1+i=s+(i+1) by omega] at this;simpa using this
theorem QjV {R:List RN} {L:Nat->Qd} {s n:Nat} (F:Nat->List (Nat × Int)):∀ (K:List Nat) (ps:List (Nat × Nat)) (b:Nat),J4 ps b n->K.length=ps.length->(∀ k,(u:k<K.length)->(f:k<ps.length)->QaK R L (F K[k]) (s+ps[k].1)/\(F K[k]).length=ps[k].2-ps[k].1)->QaK R L (K.flatMap F) (s+b)/\(K.flatMap F).length=n-b
 | [],[],b,ht,_,_=>by have e:b=n:=ht;subst e;exact ⟨trivial,by simp⟩| [],_::_,_,_,hl,_=>by simp at hl| _::_,[],_,_,hl,_=>by simp at hl
 | k::K,p::ps,b,⟨h1,h2,h3⟩,hl,h=>by
  obtain ⟨d,a⟩:=h 0 (by simp) (by simp);simp only [getElem_cons_zero] at d a;obtain ⟨g,i⟩:=QjV F K ps p.2 h3 (by simpa using hl) λj m f=>by have:=h (j+1) (by simpa using m) (by simpa using f);simpa using this
  have t:p.2<=n:=by
   clear g i h d a hl h2 h1;have key:∀ (l:List (Nat × Nat)) (c:Nat),J4 l c n->c<=n:=by
    intro l;induction l with
    | nil=>intro c o;exact Nat.le_of_eq o
    | cons q l ih=>intro c ⟨v,x,r⟩;have:=ih _ r;omega
   exact key ps p.2 h3
  rw [flatMap_cons];refine ⟨QaK.app (by rw [<- h1];exact d) ?_,by rw [length_append,a,i];omega⟩;rw [a,show s+b+(p.2-p.1)=s+p.2 by omega];exact g
theorem QgA {R:List RN} (c:Qx R) {L:Nat->Qd}:∀ (f g a:Nat) (s n:Nat),Jd L s n->QaO R L f (Qg R a) s n->ZF R g a->QaK R L (Qo R g a (L s).d) s/\(Qo R g a (L s).d).length=n
 | 0,_,_,_,_,_,h,_=>h.elim| f+1,0,_,_,_,_,_,h=>h.elim
 | f+1,g+1,a,s,n,hpc,⟨h1,h2,h3,h4,h5,h6,h7⟩,⟨ha,hk⟩=>by
  have r:=QV ha;have b:=QdR c ha;rw [<- r] at b;have u:Qg R a≠0:=by have:=Qb8 c h1;omega
  have j:(Qn R (Qg R a)).map (Qg R)=(Qc R (Qg R a)).kids:=by rw [QdS c h1,Qcm R u]
  have q:(Qn R (Qg R a)).length=(Qe L s n).length:=by rw [<- h6,<- j,length_map]
  rw [Qo];have t:2<=n->(L (s+1)).d=(L (s+0)).d+1:=λA=>by have B:=hpc.deep 1 (by omega) (by omega);have v:=hpc.step 0 (by omega);simp only [Nat.add_zero] at v ⊢;omega
  obtain ⟨w1,w2⟩:=QjV (R:=R) (L:=L) (s:=s) (λk=>Qo R g k ((L s).d+1)) (Qn R (Qg R a)) (Qe L s n) 1 (QdE _ hpc.pos) q λk l i=>by
   have m:(Qe L s n)[k] ∈ Qe L s n:=Xa0 i;have x:(Qe L s n).getD k (0,0)=(Qe L s n)[k]:=by rw [Xg i];rfl
   have o:=h7 k i;have y:(Qc R (Qg R a)).kids.getD k 0=Qg R (Qn R (Qg R a))[k]:=by rw [<- j,getD_eq_getElem?_getD,getElem?_map,getElem?_eq_getElem l];rfl
   rw [y,x] at o;obtain ⟨z,C,_⟩:=hpc.part m;have p:=(Qhj hpc.pos t m).1;rw [Nat.add_zero] at p;have:=QgA c f g (Qn R (Qg R a))[k] _ _ z o (hk _ (Xa0 l));rw [p] at this;exact this
  refine ⟨⟨⟨ha,rfl,?_,?_,?_,?_⟩,w1⟩,?_⟩
  ·rw [JT ha];rw [b] at h2;exact h2
  ·rw [JT ha];rw [b] at h3;exact h3
  ·rw [JT ha];rw [b] at h4;exact h4
  ·rw [JT ha];rw [b] at h5;exact h5
  rw [length_cons,w2];have:=hpc.pos;omega
theorem Ql8 (A:Nat->ByteArray × Int):∀ n j,j<n->QaT A n ⟨(A j).1,(A j).2,Q5 A (A j) j⟩=some (j:Int)
 | 0,j,h=>by omega
 | n+1,j,h=>by
  rw [QaT];unfold QaY;by_cases e:j=n
  ·subst e;rw [if_pos rfl]
  rw [if_neg,Ql8 A n j (by omega)];intro a;rw [LK.mk.injEq] at a;have b:A j=A n:=Prod.ext a.1 a.2.1;have:=Qf1 (A:=A) (x:=A n) (i:=j) (j:=n) (by omega) b;have c:=a.2.2;rw [b] at c;omega
theorem Qfr {A:Nat->ByteArray × Int} {i:Nat} (b:(A i).2=0):∀ k,ZR A i k=Q5 A (A i) k
 | 0=>rfl
 | k+1=>by
  have e:((A k).1=(A i).1/\(A k).2=0)↔A k=A i:=⟨λ⟨c,d⟩=>Prod.ext c (by rw [d,b]),λe=>by rw [e];exact ⟨rfl,b⟩⟩;rw [ZR,Q5,Qfr b k];by_cases a:A k=A i
  ·rw [if_pos (e.2 a),if_pos a]
  rw [if_neg (λf=>a (e.1 f)),if_neg a]
theorem Qjr {A:Nat->ByteArray × Int} {x:ByteArray × Int}:∀ j,(∀ i,i<j->A i≠x)->Q5 A x j=0| 0,_=>rfl| j+1,h=>by rw [Q5,Qjr j λi a=>h i (by omega),if_neg (h j (by omega))]
theorem Qiw {A B:Nat->ByteArray × Int} {j:Nat}:∀ {n:Nat},(∀ i,i<n->J6 A B j i=false)->J0 A B j n=-1| 0,_=>rfl| n+1,h=>by rw [J0,Qiw λi a=>h i (by omega),if_pos rfl,h n (by omega)];rfl
theorem Qkd {A B:Nat->ByteArray × Int} {j p:Nat} (a:J6 A B j p=true) (b:∀ i,i<p->J6 A B j i=false):∀ {n:Nat},p<n->J0 A B j n=(p:Int)
 | 0,h=>by omega
 | n+1,h=>by
  rw [J0];by_cases e:n=p
  ·subst e;rw [Qiw b,if_pos rfl,a,if_pos rfl]
  rw [Qkd a b (n:=n) (by omega),if_neg (by omega)]
theorem QkG {A:Nat->ByteArray × Int} {x:ByteArray × Int}:∀ {i p:Nat},i<=p->Q5 A x i<=Q5 A x p
 | i,0,h=>by rw [Nat.le_zero.1 h];exact X0
 | i,p+1,h=>by
  by_cases e:i=p+1
  ·rw [e];exact X0
  have:=QkG (A:=A) (x:=x) (i:=i) (p:=p) (by omega);rw [Q5];omega
theorem Qvs {x:ByteArray × Int} (a:i<p) (e:A i=x):Q5 A x i+1<=Q5 A x p:=by have:=QkG (A:=A) (x:=x) (i:=i+1) (p:=p) a;rw [Q5,if_pos e] at this;exact this
theorem Qks {B:Nat->ByteArray × Int} (c:p<n) (e:A p=B j) (a:Q5 A (A p) p=Q5 B (B j) j):Qa8 A n B j=(p:Int):=by unfold Qa8;have b:=Ql8 A n p c;rw [e] at b a;rw [<- a,b];rfl
theorem Qwg {B:Nat->ByteArray × Int} (z:∀ i j,i<m->j<m->B i=B j->(B i).2≠0->i=j) (C:j<m):J0 A B j n=Qa8 A n B j:=by
 have s:(B j).2≠0->Q5 B (B j) j=0:=λa=>Qjr j λi c e=>by have:=z i j (by omega) C e (by rw [e];exact a);omega
 have g:∀ i,J6 A B j i=true↔A i=B j/\((A i).2=0->Q5 A (A i) i=Q5 B (B j) j):=λi=>by
  unfold J6;simp only [Bool.and_eq_true,Bool.or_eq_true,Bool.not_eq_true',decide_eq_true_eq,decide_eq_false_iff_not];refine and_congr_right λe=>?_;constructor
  ·rintro (a|a) b
   ·exact absurd b a
   rw [Qfr b,Qfr (by rw [<- e];exact b)] at a;exact a
  intro a;by_cases b:(A i).2=0
  ·right;rw [Qfr b,Qfr (by rw [<- e];exact b)];exact a b
  exact .inl b
 by_cases f:Qa8 A n B j=-1
 ·rw [f];refine Qiw λi c=>?_;cases h:J6 A B j i with
  | false=>rfl
  | true =>
   exfalso;obtain ⟨e,b⟩:=(g i).1 h;by_cases d:(A i).2=0
   ·rw [Qks c e (b d)] at f;omega
   -- the first of them
   have v:∀ k,(∃ i,i<k/\A i=B j)->∃ i,i<k/\A i=B j/\Q5 A (A i) i=0:=by
    intro k;induction k with
    | zero=>rintro ⟨i,a,_⟩;omega
    | succ k ih =>
     rintro ⟨i,c,e⟩;by_cases a:∃ i,i<k/\A i=B j
     ·obtain ⟨i,t,l⟩:=ih a;exact ⟨i,by omega,l⟩
     have D:i=k:=by
      by_cases o:i=k
      ·exact o
      exact absurd ⟨i,by omega,e⟩ a
     subst D;exact ⟨i,by omega,e,Qjr i λq E o=>a ⟨q,E,by rw [o,e]⟩⟩
   obtain ⟨q,q1,q2,q3⟩:=v n ⟨i,c,e⟩;rw [Qks q1 q2 (by rw [q3,s (by rw [<- e];exact d)])] at f;omega
 obtain ⟨p,t,l,r,u⟩:=QfB (rfl:Qa8 A n B j=_) f;rw [t];refine Qkd ((g p).2 ⟨r.symm,λ_=>u.symm⟩) (λi c=>?_) l;cases h:J6 A B j i with
 | false=>rfl
 | true =>
  exfalso;obtain ⟨e,b⟩:=(g i).1 h;have y:=Qvs (A:=A) (x:=A p) c (by rw [e,r]);rw [<- u] at y;have F:A i=A p:=by rw [e,r]
  by_cases d:(A i).2=0
  ·have:=b d;rw [F] at this;omega
  have:=s (by rw [<- e];exact d);omega
theorem Qf5 (v:Nat->Int):∀ i,(Zr v i).length=i| 0=>rfl| i+1=>by rw [Zr,length_append,Qf5 v i];rfl
theorem Qh2 (v:Nat->Int):∀ {n i:Nat},i<n->(Zr v n).getD i 0=Z9 v (Zr v i) i i
 | 0,i,h=>by omega
 | n+1,i,h=>by
  rw [Zr,getD_eq_getElem?_getD];by_cases e:i=n
  ·subst e;rw [getElem?_append_right (by rw [Qf5];exact X0),Qf5,Nat.sub_self];rfl
  rw [getElem?_append_left (by rw [Qf5];omega),<- getD_eq_getElem?_getD];exact Qh2 v (by omega)
def QbL (v:Nat->Int) (i:Nat):Nat:=Z9 v (Zr v i) i i
theorem Ql6 (v:Nat->Int):∀ i k,k<=i->(∀ q,q<i->∃ c:List Nat,c.length=QbL v q/\c.Pairwise (λx d=>x<d/\v x<v d)/\c.getLastD 0=q/\c≠[]/\∀ x,x ∈ c->x<=q)->∃ c:List Nat,c.length=Z9 v (Zr v i) i k/\c.Pairwise (λx d=>x<d/\v x<v d)/\c.getLastD 0=i/\c≠[]/\∀ x,x ∈ c->x<=i
 | i,0,_,_=>⟨[i],rfl,pairwise_singleton _ _,rfl,by simp,λx a=>by rw [mem_singleton.1 a];exact X0⟩
 | i,k+1,hk,ih=>by
  rw [Z9];split
  ·next p =>
   rw [Qh2 v (show k<i by omega)];obtain ⟨c,l,f,m,g,h⟩:=ih k (by omega);have j:∀ x,x ∈ c->x<=k/\v x<=v k:=λx a=>by
    refine ⟨h x a,?_⟩;have n:c=c.dropLast++[k]:=by have:=(dropLast_concat_getLast g).symm;rw [show c.getLast g=k by rw [<- m,getLastD_eq_getLast?,getLast?_eq_some_getLast g];rfl] at this;exact this
    rw [n] at a f;rcases Xa4.1 a with b|b
    ·have:=((pairwise_append.1 f).2.2 x b k (by simp)).2;omega
    rw [mem_singleton.1 b];exact Int.le_refl _
   refine ⟨c++[i],by rw [length_append,l];rfl,?_,by simp,by simp,λx a=>?_⟩
   ·rw [pairwise_append];refine ⟨f,pairwise_singleton _ _,λx a d o=>?_⟩;rw [mem_singleton.1 o];have:=j x a;omega
   rcases Xa4.1 a with b|b
   ·have:=h x b;omega
   rw [mem_singleton.1 b];exact X0
  exact Ql6 v i k (by omega) ih
theorem QvF (v:Nat->Int) (i:Nat):∃ c:List Nat,c.length=QbL v i/\c.Pairwise (λx a=>x<a/\v x<v a)/\c.getLastD 0=i/\c≠[]/\∀ x,x ∈ c->x<=i:=by induction i using Nat.strongRecOn with| ind i ih=>exact Ql6 v i i X0 λq b=>ih q b
theorem QlF (v:Nat->Int) (i:Nat) {q:Nat} (b:v q<v i):∀ {k},q<k->k<=i->QbL v q+1<=Z9 v (Zr v i) i k
 | 0,h1,_=>by omega
 | k+1,h1,h2=>by
  rw [Z9];by_cases e:q=k
  ·subst e;rw [Qh2 v (show q<i by omega)];show QbL v q+1<=if v q<v i/\_<QbL v q+1 then QbL v q+1 else _;split
   ·exact X0
   next a=>omega
  have ih:=QlF v i b (k:=k) (by omega) (by omega);split
  ·next a=>omega
  exact ih
theorem Qh0 (v:Nat->Int) (a:List Nat) (i:Nat):∀ k,1<=Z9 v a i k| 0=>X0| k+1=>by have:=Qh0 v a i k;rw [Z9];split<;>omega
theorem Qrx (v:Nat->Int):∀ (c:List Nat) (i:Nat),(c++[i]).Pairwise (λx f=>x<f/\v x<v f)->(c++[i]).length<=QbL v i:=by
 intro c;generalize a:c.length=n;induction n generalizing c with
 | zero =>intro i _;rw [length_append,a];exact Qh0 _ _ _ _
 | succ n ih =>
  intro i o;have b:c≠[]:=λe=>by rw [e] at a;simp at a
  obtain ⟨d,q,rfl⟩:∃ d q,c=d++[q]:=⟨c.dropLast,c.getLast b,(dropLast_concat_getLast b).symm⟩;rw [length_append] at a;have g:d.length=n:=by simpa using a
  obtain ⟨h,_,j⟩:=pairwise_append.1 o;obtain ⟨l,m⟩:=j q (by simp) i (by simp);have:=ih d g q h;have p:=QlF v i m (k:=i) l X0;rw [length_append] at this ⊢;rw [length_append];show d.length+1+1<=Z9 v (Zr v i) i i;have:d.length+1<=QbL v q:=this;omega
theorem Qkv (v:Nat->Int):∀ {n i:Nat},i<n->QbL v i<=QaH v n
 | 0,i,h=>by omega
 | n+1,i,h=>by
  rw [QaH];by_cases e:i=n
  ·subst e;show QbL v i<=if _<QbL v i then QbL v i else _;split<;>omega
  have:=Qkv v (n:=n) (i:=i) (by omega);split<;>omega
theorem QmW (v:Nat->Int):∀ n,(n=0/\QaH v n=0) \/ ∃ i,i<n/\QaH v n=QbL v i
 | 0=>.inl ⟨rfl,rfl⟩
 | n+1=>by
  right;rw [QaH];split
  ·exact ⟨n,by omega,rfl⟩
  next a =>
  rcases QmW v n with ⟨rfl,e⟩|⟨i,c,b⟩
  ·exfalso;have:=Qh0 v (Zr v 0) 0 0;rw [e] at a;exact a this
  exact ⟨i,by omega,b⟩
theorem Quj (v:Nat->Int) (n:Nat):QaH v n=(QbE v n).length:=by
 obtain ⟨c,b,f,g⟩:=Qnh v n;refine Nat.le_antisymm ?_ ?_
 ·rcases QmW v n with ⟨_,e⟩|⟨i,o,h⟩
  ·rw [e];exact X3
  obtain ⟨d,j,k,_,_,l⟩:=QvF v i;rw [h,<- j];exact Qv8 v n d k λx m=>by have:=l x m;omega
 rw [b,length_map];by_cases a:c=[]
 ·rw [a];exact X3
 obtain ⟨d,q,rfl⟩:∃ d q,c=d++[q]:=⟨c.dropLast,c.getLast a,(dropLast_concat_getLast a).symm⟩;exact Xb6 (Qrx v d q f) (Qkv v (g q (by simp)))
end Go.Proofs.YtobgcaemnpkbmaaGreat
