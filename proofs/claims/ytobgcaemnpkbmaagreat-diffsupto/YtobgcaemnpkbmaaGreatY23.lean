import Derived.Test.YtobgcaemnpkbmaaGreatY22
namespace Go.Proofs.YtobgcaemnpkbmaaGreat
set_option maxRecDepth 100000
set_option maxHeartbeats 8000000
open Go.RowKit List
variable {last:Int} {pr:List Int} {P:List Qh} {R R':List RN} {N k n r s:Nat} {L:Nat->Qd} {X:Nat->Qh} {x:Qh}
def Qga (m:Qd) (j:Int):Nat:=(if j=1 then 1 else 0)+(if j=2 then 1 else 0)+(if j=4 then m.an else 0)
def Qao (L:Nat->Qd) (s:Nat) (j:Int):Nat->Nat
 | 0=>0
 | i+1=>Qao L s j i+Qga (L (s+i)) j
theorem Qje (L:Nat->Qd) (s:Nat) (j:Int) (a:Nat):∀ b,Qao L s j (a+b)=Qao L s j a+Qao L (s+a) j b| 0=>rfl| b+1=>by rw [<- Nat.add_assoc,Qao,Qje L s j a b,Qao,Nat.add_assoc,Nat.add_assoc s a b]
theorem QjP (L:Nat->Qd) (s:Nat) (j:Int):∀ (ps:List (Nat × Nat)) (a b:Nat),J4 ps a b->a<=b/\Qao L (s+a) j (b-a)=(ps.map λp=>Qao L (s+p.1) j (p.2-p.1)).sum| [],a,b,c=>by have c:a=b:=c;subst c;rw [Nat.sub_self];exact ⟨X0,rfl⟩| p::ps,a,b,⟨h1,h2,h3⟩=>by obtain ⟨f,d⟩:=QjP L s j ps p.2 b h3;refine ⟨by omega,?_⟩;rw [map_cons,sum_cons,<- d,<- h1,show b-p.1=(p.2-p.1)+(b-p.2) by omega,Qje,show s+p.1+(p.2-p.1)=s+p.2 by omega]
def Qcc (nm vl:Nat->ByteArray) (n:Nat) (a b:Nat->ByteArray):Nat->Nat
 | 0=>0
 | k+1=>Qcc nm vl n a b k+(if JN nm vl (a k) (b k) n=true then 0 else 1)
def QcL (nm a:Nat->ByteArray) (b:Nat):Nat->Nat
 | 0=>0
 | k+1=>QcL nm a b k+(if JL a (nm k) b=true then 0 else 1)
theorem Qh4 (id:Int) (nm vl:Nat->ByteArray) (n:Nat) (a b:Nat->ByteArray) (j:Int):∀ k,JS j (QaX id nm vl n a b k)=if j=4 then Qcc nm vl n a b k else 0
 | 0=>by simp [QaX,Qcc,Qf2]
 | k+1=>by
  have ih:=Qh4 id nm vl n a b j k;rw [Qcc];cases c:JN nm vl (a k) (b k) n with
  | true=>rw [Qgo c,ih];simp
  | false =>
   rw [QgE c,Qa6,ih,Qdd];by_cases e:j=4
   ·subst e;simp
   have d:¬ (4:Int)=j:=λf=>e f.symm;simp only [if_neg e,if_neg d]
theorem Qjw (id:Int) (nm a:Nat->ByteArray) (b:Nat) (j:Int):∀ k,JS j (Qav id nm a b k)=if j=5 then QcL nm a b k else 0
 | 0=>by simp [Qav,QcL,Qf2]
 | k+1=>by
  have ih:=Qjw id nm a b j k;rw [QcL];cases c:JL a (nm k) b with
  | true=>rw [QgN c,ih];simp
  | false =>
   rw [QgU c,Qa6,ih,Qdd];by_cases e:j=5
   ·subst e;simp
   have d:¬ (5:Int)=j:=λf=>e f.symm;simp only [if_neg e,if_neg d]
theorem Qno (nm vl:Nat->ByteArray) (a b:Nat->ByteArray):∀ k,Qcc nm vl 0 a b k=k| 0=>rfl| k+1=>by rw [Qcc,Qno nm vl a b k];have:JN nm vl (a k) (b k) 0=false:=rfl;rw [this];rfl
def Qa4 (x:NI) (m:Qd) (j:Int):Nat :=
 if x.tag.toList.isEmpty=true then (if j=6 then (if (x.text.toList==m.x.toList)=true then 0 else 1) else 0)
 else (if j=4 then Qcc (QP x.ats) (Q6 x.ats) x.ats.length m.nm m.vl m.an else 0)+(if j=5 then QcL (QP x.ats) m.nm m.an x.ats.length else 0)
theorem QnB (id:Int) (x:NI) (m:Qd) (j:Int):JS j (Jo id x m)=if j=6 then (if (x.text.toList==m.x.toList)=true then 0 else 1) else 0:=by
 cases a:(x.text.toList==m.x.toList) with
 | true=>rw [QgY a,Qf2];simp
 | false =>
  rw [Qji a,Qdd];by_cases e:j=6
  ·subst e;simp
  have b:¬ (6:Int)=j:=λc=>e c.symm;simp only [if_neg e,if_neg b]
theorem QwN {x:NI} {m:Qd} (id:Int) (j:Int) (c:QcH x) (d:Ze m=true \/ Zx m=true) (f:x.tag=m.t):JS j (Jo id x m++JR id x m)=Qa4 x m j:=by
 unfold JR Qa4;rw [Qa6,Qa6,QnB,Qjw,Qh4];cases b:x.tag.toList.isEmpty with
 | true =>
  rw [if_pos rfl,c.ats b];have g:m.an=0:=by
   rcases d with a|a
   ·have:=(QeQ a).1;rw [<- f,b] at this;cases this
   exact (QeP a).2.2
  rw [g];simp [Qcc,QcL]
 | false =>
  have h:=c.text b;have i:m.x=⟨#[]⟩:=by
   rcases d with a|a
   ·exact (QeQ a).2
   have:=(QeP a).1;rw [<- f,b] at this;cases this
  rw [i,h];simp;omega
def Qaf (pr:List Int) (k:Nat):Nat:=(pr.take k).countP λp=>!(p==-1)
theorem Qu8 (a:k<pr.length):Qaf pr (k+1)=Qaf pr k+if pr.getD k 0=-1 then 0 else 1:=by
 unfold Qaf;rw [take_succ_eq_append_getElem a,countP_append,Xg a];by_cases e:pr[k]=-1
 ·simp [e]
 simp [e]
theorem QlX {pr:List Int}:∀ {k:Nat},k<=pr.length->QaN pr k+Qaf pr k=k
 | 0,_=>by unfold QaN Qaf;simp
 | k+1,h=>by
  have ih:=QlX (pr:=pr) (k:=k) (by omega);rw [Qh8 (by omega),Qu8 (by omega)];by_cases e:pr.getD k 0=-1
  ·rw [if_pos e,if_pos e];omega
  rw [if_neg e,if_neg e];omega
theorem Qm5 (pr:List Int):Qaf pr pr.length=(pr.filter QL).length:=by unfold Qaf;rw [take_length,countP_eq_length_filter];rfl
theorem QhL (pr:List Int):(Q4 pr).length<=Qaf pr pr.length:=by
 have a:=(Qhg pr).2;have c:(Q4 pr).countP (λp=>!(p==-1))=(Q4 pr).length:=countP_eq_length.2 λv b=>by have:=(Qe1 b).2;simpa using this
 have d:=a.countP_le (p:=λp=>!(p==-1));unfold Qaf;rw [take_length];omega
def Qbw (j:Int) (a:Int->Nat->Nat->Int->Nat) (L:Nat->Qd) (ks:List Int) (s:Nat) (ps:List (Nat × Nat)) (pr:List Int):Nat->Nat
 | 0=>0
 | k+1=>Qbw j a L ks s ps pr k+if pr.getD k 0=-1 then Qao L (s+(ps.getD k (0,0)).1) j ((ps.getD k (0,0)).2-(ps.getD k (0,0)).1) else a (ks.getD (pr.getD k 0).toNat 0) (s+(ps.getD k (0,0)).1) ((ps.getD k (0,0)).2-(ps.getD k (0,0)).1) j
def QaI (T:Int->NI) (L:Nat->Qd):Nat->Int->Nat->Nat->Int->Nat
 | 0,_,_,_,_=>0
 | f+1,id,s,n,j=>Qa4 (T id) (L s) j+Qbw j (QaI T L f) L (T id).kids s (Qe L s n) (QE T L (T id).kids s (Qe L s n)) (Qe L s n).length
   + (if j=3 then (T id).kids.length-Qaf (QE T L (T id).kids s (Qe L s n)) (Qe L s n).length else 0)+(if j=2 then Qaf (QE T L (T id).kids s (Qe L s n)) (Qe L s n).length-(Q4 (QE T L (T id).kids s (Qe L s n))).length else 0)
theorem QkS {T:Int->NI} {L:Nat->Qd}:∀ (f:Nat) (id:Int) (s n:Nat) (last:Int) (j:Int),Jd L s n->n<=f->JS j (ZE T L f id ⟨(L s).k,(L s).t,(L s).x,[],[]⟩ s n last).1+(if j=1 then 1 else 0)+(if j=2 then 1 else 0)=Qao L s j n
 | 0,_,_,_,_,_,h,hn=>by have:=h.pos;omega
 | f+1,id,s,n,last,j,h,hn=>by
  have y:=h.pos;have B:QE T L [] s (Qe L s n)=(Qe L s n).map λ_=>(-1:Int):=by unfold QE QaJ;refine ext_getElem (by simp) λk g l=>?_;rw [getElem_map,getElem_map];rfl
  have c:Q4 ((Qe L s n).map λ_=>(-1:Int))=[]:=by
   have g:=QhL ((Qe L s n).map λ_=>(-1:Int));have l:Qaf ((Qe L s n).map λ_=>(-1:Int)) ((Qe L s n).map λ_=>(-1:Int)).length=0:=by unfold Qaf;rw [take_length,countP_eq_zero];intro v b;obtain ⟨_,_,rfl⟩:=Xa5.1 b;simp
   rw [l] at g;exact eq_nil_of_length_eq_zero (by omega)
  have C:∀ k,k<(Qe L s n).length->((Qe L s n).map λ_=>(-1:Int)).getD k 0=-1:=λk m=>by rw [getD_eq_getElem?_getD,getElem?_map,getElem?_eq_getElem m];rfl
  have D:=QjT (ZE T L f) T L id ⟨(L s).k,(L s).t,(L s).x,[],[]⟩ s n last j _ _ rfl B;have z:QaN ((Qe L s n).map λ_=>(-1:Int)) (Qe L s n).length=(Qe L s n).length:=by unfold QaN;rw [take_of_length_le (by simp),countP_eq_length.2,length_map];intro v b;obtain ⟨_,_,rfl⟩:=Xa5.1 b;simp
  have A:∀ (q:KS) k,k<=(Qe L s n).length->Qcj j (ZE T L f) T L id [] s (Qe L s n) ((Qe L s n).map λ_=>(-1:Int)) q k+(if j=1 then k else 0)+(if j=2 then k else 0)=(((Qe L s n).take k).map λp=>Qao L (s+p.1) j (p.2-p.1)).sum:=by
   intro q k;induction k with
   | zero=>intro _;simp [Qcj]
   | succ k ih =>
    intro m;have ih:=ih (by omega);have a:k<(Qe L s n).length:=by omega
    have G:(Qe L s n)[k] ∈ Qe L s n:=Xa0 a;have H:(Qe L s n).getD k (0,0)=(Qe L s n)[k]:=by rw [Xg a];rfl
    obtain ⟨I,M,_⟩:=h.part G;rw [Qcj,take_succ_eq_append_getElem a,map_append,sum_append,<- ih,C k a,H];unfold QeW;rw [if_pos rfl];have E:=QkS (T:=T) f ((Zq (ZE T L f) T L id [] s (Qe L s n) ((Qe L s n).map λ_=>(-1:Int)) q k).last+1) (s+(Qe L s n)[k].1) ((Qe L s n)[k].2-(Qe L s n)[k].1) ((Zq (ZE T L f) T L id [] s (Qe L s n) ((Qe L s n).map λ_=>(-1:Int)) q k).last+1) j I (by omega);simp only [map_cons,map_nil,sum_cons,sum_nil,Nat.add_zero];rw [<- E];split<;>split<;>omega
  have r:=(QjP L s j _ 1 n (QdE (λi=>(L (s+i)).d) y)).2;have o:=A ⟨ZK (λj=>([]:List Int).getD j 0) ((Qe L s n).map λ_=>(-1:Int)) 0,Q4 ((Qe L s n).map λ_=>(-1:Int)),last⟩ (Qe L s n).length X0;rw [take_length] at o;have u:Qao L s j n=Qga (L s) j+Qao L (s+1) j (n-1):=by have:=Qje L s j 1 (n-1);rw [show 1+(n-1)=n by omega] at this;rw [this,Qao,Qao];simp
  have J:JS j (Jo id ⟨(L s).k,(L s).t,(L s).x,[],[]⟩ (L s)++JR id ⟨(L s).k,(L s).t,(L s).x,[],[]⟩ (L s))=if j=4 then (L s).an else 0:=by unfold JR;rw [Qa6,Qa6,QnB,Qjw,Qh4];simp only [length_nil,Qno,QcL];simp
  have K:(ZE T L (f+1) id ⟨(L s).k,(L s).t,(L s).x,[],[]⟩ s n last).1=Jo id ⟨(L s).k,(L s).t,(L s).x,[],[]⟩ (L s)++JR id ⟨(L s).k,(L s).t,(L s).x,[],[]⟩ (L s)++(Qad (ZE T L f) T L id ⟨(L s).k,(L s).t,(L s).x,[],[]⟩ s n last).1:=rfl;rw [K,Qa6,J,D,u];rw [z,c];have F:Qao L (s+1) j (n-1)=((Qe L s n).map λp=>Qao L (s+p.1) j (p.2-p.1)).sum:=r;rw [F,<- o];unfold Qga;rw [c];simp only [length_nil,range_zero,countP_nil,Nat.sub_zero];split<;>split<;>split<;>split<;>omega
theorem QfI (f:0<n) (a:∀ i,i<n->QF L i=true):Jd L 0 n:=by
 refine ⟨f,λi g h=>?_,λi b=>?_,λi b=>?_,λi b d=>?_⟩
 ·rw [Nat.zero_add];have j:=Qfu (a 0 f);have:=(Qc9 g (a i h)).1;omega
 ·have:=(Qc9 (by omega) (a (i+1) b)).2.2;rw [Nat.add_sub_cancel] at this;simpa using this
 ·rw [Nat.zero_add];exact Qbf (a i b)
 rw [Nat.zero_add] at d ⊢;have c:Z4 L (i+1) (i+1)=true:=by have:=a (i+1) b;unfold QF at this;rw [if_neg (by omega)] at this;simp only [Bool.and_eq_true] at this;exact this.2
 rw [Qjq d] at c;rcases Qbf (a i (by omega)) with e|e
 ·exact e
 rw [(QeP e).1] at c;cases c
theorem Qmp:∀ (l:List (Nat × Nat)) (a b i:Nat),J4 l a b->a<=i->i<b->∃ p,p ∈ l/\p.1<=i/\i<p.2
 | [],a,b,i,h,h1,h2=>by have e:a=b:=h;omega
 | p::l,a,b,i,⟨g1,g2,g3⟩,h1,h2=>by
  by_cases e:i<p.2
  ·exact ⟨p,mem_cons_self ..,by omega,e⟩
  obtain ⟨q,q1,q2⟩:=Qmp l p.2 b i g3 (by omega) h2;exact ⟨q,Xa8 _ q1,q2⟩
theorem QeE (a:Jd L s n) (x:Nat):x ∈ (Qe L s n).map (·.1)↔0<x/\x<n/\(L (s+x)).d=(L s).d+1:=by
 have b:2<=n->(L (s+1)).d=(L (s+0)).d+1:=λo=>by have q:=a.deep 1 (by omega) (by omega);have k:=a.step 0 (by omega);simp only [Nat.add_zero] at k ⊢;omega
 constructor
 ·intro l;obtain ⟨p,c,rfl⟩:=Xa5.1 l;obtain ⟨f,g,h⟩:=Qce a.pos c;have:=(Qhj a.pos b c).1;rw [Nat.add_zero] at this;exact ⟨by omega,by omega,this⟩
 rintro ⟨f,g,h⟩;obtain ⟨p,j,r,m⟩:=Qmp _ 1 n x (QdE (λi=>(L (s+i)).d) a.pos) f g;by_cases e:x=p.1
 ·rw [e];exact Xa5.2 ⟨p,j,rfl⟩
 have:=(Qhj a.pos b j).2 x (by omega) m;rw [Nat.add_zero] at this;exact absurd h this
def QcX (L:Nat->Qd) (N s n:Nat):Prop:=s+n<=N/\(s+n<N->(L (s+n)).d<=(L s).d)
theorem QlD:∀ (l:List (Nat × Nat)) (a b:Nat),J4 l a b->∀ q,q ∈ l->q.2=b \/ ∃ r,r ∈ l/\r.1=q.2
 | [],_,_,_,_,h=>by simp at h
 | p::l,a,b,⟨g1,g2,g3⟩,q,h=>by
  rcases mem_cons.1 h with e|e
  ·subst e;cases l with| nil =>have e:q.2=b:=g3;exact .inl e| cons r l=>exact .inr ⟨r,by simp,g3.1⟩
  rcases QlD l p.2 b g3 q e with e|⟨r,c,d⟩
  ·exact .inl e
  exact .inr ⟨r,Xa8 _ c,d⟩
theorem QcX.part (b:Jd L s n) (g:QcX L N s n) {a:Nat × Nat} (f:a ∈ Qe L s n):QcX L N (s+a.1) (a.2-a.1):=by
 obtain ⟨k,l,m⟩:=Qce b.pos f;have o:=(QeE b a.1).1 (Xa5.2 ⟨a,f,rfl⟩);refine ⟨by have:=g.1;omega,λc=>?_⟩;rw [show s+a.1+(a.2-a.1)=s+a.2 by omega] at c ⊢;rcases QlD _ 1 n (QdE (λi=>(L (s+i)).d) b.pos) a f with e|⟨r,h,j⟩
 ·rw [e] at c ⊢;have:=g.2 c;omega
 have:=(QeE b r.1).1 (Xa5.2 ⟨r,h,rfl⟩);rw [j] at this;omega
theorem Qdh:∀ (l m:List Int),l.Nodup->(∀ a,a ∈ l->a ∈ m)->l.length<=m.length
 | [],_,_,_=>X3
 | a::l,m,hn,h=>by
  obtain ⟨g,i⟩:=nodup_cons.1 hn;have d:=h a (mem_cons_self ..);have:=Qdh l (m.erase a) i λb c=>by
   have f:b≠a:=λe=>by rw [e] at c;exact g c
   exact (mem_erase_of_ne f).2 (h b (Xa8 _ c))
  rw [length_erase_of_mem d] at this;have:=length_pos_of_mem d;simp only [length_cons];omega
theorem Qnb {R:List RN} {L:Nat->Qd}:∀ (f:Nat) (id:Int) (s n:Nat) (j:Int),Jd L s n->QaO R L f id s n->QG (Qc R) id j->∃ i,i<n/\(Qc R j).tag=(L (s+i)).t/\(Qc R j).key=(L (s+i)).k/\(Qc R j).text=(L (s+i)).x/\(Qc R j).ats=Zc (L (s+i))
 | 0,_,_,_,_,_,h,_=>h.elim
 | f+1,id,s,n,j,hpc,⟨h1,h2,h3,h4,h5,h6,h7⟩,b=>by
  rcases JY.1 b with e|⟨c,g,b⟩
  ·rw [e];exact ⟨0,hpc.pos,h2,h3,h4,h5⟩
  obtain ⟨k,l,rfl⟩:=Xa3 g;have a:k<(Qe L s n).length:=by omega
  have m:(Qe L s n)[k] ∈ Qe L s n:=Xa0 a;have o:(Qe L s n).getD k (0,0)=(Qe L s n)[k]:=by rw [Xg a];rfl
  have p:(Qc R id).kids.getD k 0=(Qc R id).kids[k]:=by rw [Xg l];rfl
  have d:=h7 k a;rw [p,o] at d;obtain ⟨q,u,_⟩:=hpc.part m;obtain ⟨i,v,r⟩:=Qnb f _ _ _ j q d b;refine ⟨(Qe L s n)[k].1+i,by omega,?_⟩;rw [<- Nat.add_assoc];exact r
structure QdA (R:List RN) (last:Int) (L:Nat->Qd) (n:Nat):Prop where
 ok:Qw R last
 fine:Zw R
 tree:QaO R L n 1 0 n
 all:∀ j,Qr R j->QG (Qc R) 1 j
 may:∀ i,i<n->QF L i=true
 pos:0<n
theorem QdA.node (a:QdA R last L n) {j:Int} (c:Qr R j):∃ i,i<n/\(Qc R j).tag=(L i).t/\(Qc R j).key=(L i).k/\(Qc R j).text=(L i).x/\(Qc R j).ats=Zc (L i):=by obtain ⟨i,d,b⟩:=Qnb n 1 0 n j (QfI a.pos a.may) a.tree (a.all j c);rw [Nat.zero_add] at b;exact ⟨i,d,b⟩
theorem QdA.ats {R:List RN} {last:Int} {L:Nat->Qd} {n:Nat} (b:QdA R last L n):∀ m,m ∈ R->m.ats.length<=5:=λm c=>by obtain ⟨i,d,_,_,_,a⟩:=b.node ⟨m,c,rfl⟩;rw [JC b.ok.ids c] at a;have a:m.ats=Zc (L i):=a;rw [a,Qba];exact (QaW (Qbf (b.may i d))).1
theorem QdA.keys (c:QdA R last L n) (d:∀ i,i<n->Qu (L i).k):QgW R:=λm b=>by obtain ⟨i,f,_,a,_,_⟩:=c.node ⟨m,b,rfl⟩;rw [JC c.ok.ids b] at a;have a:m.key=(L i).k:=a;rw [a];exact d i f
theorem QdA.tells (b:QdA R last L n) (c:r<R.length) (f:R[r].id=1):QaK R L (Qo R R.length r 0) 0/\(Qo R R.length r 0).length=n/\(Qm R R.length r).length=n/\R.length=n:=by
 obtain ⟨rk,k⟩:=b.ok.up;have g:=b.ok.ids;have h:=Qae k c;have e:Qg R r=1:=by rw [QV c,f]
 have d:=QgA g n R.length r 0 n (QfI b.pos b.may) (by rw [e];exact b.tree) h;rw [Qfu (b.may 0 b.pos)] at d;have l:(Qm R R.length r).length=n:=by rw [(QhZ b.ok c f).1];exact d.2
 refine ⟨d.1,d.2,l,?_⟩;have x:=(QhZ b.ok c f).2.2.2.1;have o:=Qdh (R.map (·.id)) (Qm R R.length r) (by
  unfold List.Nodup;rw [pairwise_map,pairwise_iff_getElem];intro i j p q v s;have:=g.inj i j p q s;omega) λa t=>by
  obtain ⟨m,u,rfl⟩:=Xa5.1 t;have:=(QeK g R.length r h m.id).2;rw [e] at this;exact this (b.all _ ⟨m,u,rfl⟩)
 rw [length_map] at o;omega
theorem QkX {K:Nat} (n:∀ v,v ∈ pr->v=-1 \/ ∃ p:Nat,v=(p:Int)/\p<K) (o:∀ i j,i<pr.length->j<pr.length->pr.getD i 0=pr.getD j 0->pr.getD i 0≠-1->i=j):((List.range K).countP λi:Nat=>!pr.contains (i:Int))+Qaf pr pr.length=K:=by
 have a:=length_eq_countP_add_countP (λi:Nat=>pr.contains (i:Int)) (l:=List.range K);rw [length_range] at a;have d:(List.range K).countP (λi:Nat=>decide ¬ (pr.contains (i:Int))=true)=(List.range K).countP λi:Nat=>!pr.contains (i:Int):=countP_congr λk _=>by simp
 rw [d] at a;have z:((List.range K).filter λi:Nat=>pr.contains (i:Int)).length=(pr.filter QL).length:=by
  have q:(pr.filter QL).Nodup:=by
   unfold List.Nodup;rw [pairwise_filter,pairwise_iff_getElem];intro i j g h y a b e;have m:pr.getD i 0=pr[i]:=by rw [Xg g];rfl
   have d:pr.getD j 0=pr[j]:=by rw [Xg h];rfl
   have:=o i j g h (by rw [m,d,e]) (by rw [m];intro r;rw [r] at a;cases a);omega
  have s:∀ v,v ∈ pr.filter QL->∃ p:Nat,v=(p:Int)/\p<K/\v ∈ pr:=λv c=>by
   obtain ⟨a,b⟩:=Xa7.1 c;rcases n v a with e|⟨p,e,f⟩
   ·rw [e] at b;cases b
   exact ⟨p,e,f,a⟩
  have t:=Qdh (pr.filter QL) (((List.range K).filter λi:Nat=>pr.contains (i:Int)).map λi:Nat=>(i:Int)) q λv c=>by obtain ⟨p,e,f,a⟩:=s v c;refine Xa5.2 ⟨p,Xa7.2 ⟨Xa6.2 f,?_⟩,e.symm⟩;rw [contains_iff_mem,<- e];exact a
  have u:=Qdh (((List.range K).filter λi:Nat=>pr.contains (i:Int)).map λi:Nat=>(i:Int)) (pr.filter QL) (by
   unfold List.Nodup;rw [pairwise_map,pairwise_filter];exact nodup_range.imp λx _ _ e=>x (by omega)) λv c=>by
   obtain ⟨i,a,rfl⟩:=Xa5.1 c;obtain ⟨_,b⟩:=Xa7.1 a;refine Xa7.2 ⟨contains_iff_mem.1 b,?_⟩;unfold QL Qab;simp
  rw [length_map] at t u;omega
 rw [countP_eq_length_filter] at a;rw [Qm5];omega
theorem QmX (T:Int->NI) (L:Nat->Qd) (ks:List Int) (s:Nat) (ps:List (Nat × Nat)):∀ i j,i<(QE T L ks s ps).length->j<(QE T L ks s ps).length->(QE T L ks s ps).getD i 0=(QE T L ks s ps).getD j 0->(QE T L ks s ps).getD i 0≠-1->i=j:=λi j a b e c=>by rw [QeT] at a b;have d:=Qf8 T L ks s ps a;have f:=Qf8 T L ks s ps b;exact Qmm d.symm (f.symm.trans e.symm) c
theorem Qmr {T:Int->NI} {L:Nat->Qd} (g:∀ i,QcH (T i)):∀ (f:Nat) (id:Int) (s n:Nat) (last:Int) (j:Int),Jd L s n->n<=f->(T id).tag=(L s).t->JS j (ZE T L f id (T id) s n last).1=QaI T L f id s n j
 | 0,_,_,_,_,_,h,hn,_=>by have:=h.pos;omega
 | f+1,id,s,n,last,j,h,hn,ht=>by
  have r:=h.pos;have d:=h.node 0 r;rw [Nat.add_zero] at d;have I:(ZE T L (f+1) id (T id) s n last).1=Jo id (T id) (L s)++JR id (T id) (L s)++(Qad (ZE T L f) T L id (T id) s n last).1:=rfl;have B:=QjT (ZE T L f) T L id (T id) s n last j _ _ rfl rfl;rw [I,Qa6,QwN id j (g id) d ht,B,QaI];generalize C:Qe L s n=ps at *;have u:=QmX T L (T id).kids s ps;have x:∀ v,v ∈ QE T L (T id).kids s ps->v=-1 \/ ∃ p:Nat,v=(p:Int)/\p<(T id).kids.length:=λv J=>by
   rcases QfQ J with e|⟨l,K⟩
   ·exact .inl e
   exact .inr ⟨v.toNat,by omega,by omega⟩
  have y:∀ j,j<ps.length->(QE T L (T id).kids s ps).getD j 0=_:=λj M=>Qf8 T L (T id).kids s ps M;have D:(QE T L (T id).kids s ps).length=ps.length:=QeT ..;have z:=QkX x u;have E:=QhL (QE T L (T id).kids s ps);have F:=QlX (pr:=QE T L (T id).kids s ps) X0;rw [D] at z E F;have A:∀ (q:KS) k,k<=ps.length->Qcj j (ZE T L f) T L id (T id).kids s ps (QE T L (T id).kids s ps) q k+(if j=1 then QaN (QE T L (T id).kids s ps) k else 0)+(if j=2 then QaN (QE T L (T id).kids s ps) k else 0)=Qbw j (QaI T L f) L (T id).kids s ps (QE T L (T id).kids s ps) k:=by
   intro q k;induction k with
   | zero=>intro _;simp [Qcj,Qbw,QaN]
   | succ k ih =>
    intro P;have ih:=ih (by omega);have b:k<ps.length:=by omega
    have N:ps[k] ∈ Qe L s n:=by rw [C];exact Xa0 b
    have m:ps.getD k (0,0)=ps[k]:=by rw [Xg b];rfl
    obtain ⟨o,R,_⟩:=h.part N;rw [Qcj,Qbw,Qh8 (by omega),<- ih,m];unfold QeW;by_cases c:(QE T L (T id).kids s ps).getD k 0=-1
    ·simp only [if_pos c];have G:=QkS (T:=T) f ((Zq (ZE T L f) T L id (T id).kids s ps (QE T L (T id).kids s ps) q k).last+1) (s+ps[k].1) (ps[k].2-ps[k].1) ((Zq (ZE T L f) T L id (T id).kids s ps (QE T L (T id).kids s ps) q k).last+1) j o (by omega);rw [<- G];split<;>split<;>omega
    simp only [if_neg c];obtain ⟨p,l,K,a,_⟩:=QfB (y k b).symm c;rw [l,Int.toNat_natCast];have a:=(Prod.ext_iff.1 a).1;rw [m] at a;have H:=Qmr g f ((T id).kids.getD p 0) (s+ps[k].1) (ps[k].2-ps[k].1) (Zq (ZE T L f) T L id (T id).kids s ps (QE T L (T id).kids s ps) q k).last j o (by omega) a.symm;rw [H];split<;>split<;>omega
  have O:=A ⟨ZK (λj=>(T id).kids.getD j 0) (QE T L (T id).kids s ps) (T id).kids.length,Q4 (QE T L (T id).kids s ps),last⟩ ps.length X0;rw [<- O];split<;>split<;>split<;>omega
def Qan (a:Int->Nat->Nat->List (Int × Nat)) (ks:List Int) (s:Nat) (ps:List (Nat × Nat)) (pr:List Int):Nat->List (Int × Nat)
 | 0=>[]
 | k+1=>Qan a ks s ps pr k++if pr.getD k 0=-1 then [] else a (ks.getD (pr.getD k 0).toNat 0) (s+(ps.getD k (0,0)).1) ((ps.getD k (0,0)).2-(ps.getD k (0,0)).1)
def JE (T:Int->NI) (L:Nat->Qd):Nat->Int->Nat->Nat->List (Int × Nat)
 | 0,_,_,_=>[]
 | f+1,id,s,n=>(id,s)::Qan (JE T L f) (T id).kids s (Qe L s n) (QE T L (T id).kids s (Qe L s n)) (Qe L s n).length
theorem QlC {b:Int->Nat->Nat->List (Int × Nat)} {ks:List Int} {s:Nat} {ps:List (Nat × Nat)} {pr:List Int} {x:Int × Nat}:∀ {k:Nat},x ∈ Qan b ks s ps pr k->∃ q,q<k/\pr.getD q 0≠-1/\x ∈ b (ks.getD (pr.getD q 0).toNat 0) (s+(ps.getD q (0,0)).1) ((ps.getD q (0,0)).2-(ps.getD q (0,0)).1)
 | 0,a=>by simp [Qan] at a
 | k+1,a=>by
  rw [Qan] at a;rcases Xa4.1 a with a|a
  ·obtain ⟨q,d,c⟩:=QlC a;exact ⟨q,by omega,c⟩
  by_cases e:pr.getD k 0=-1
  ·rw [if_pos e] at a;simp at a
  rw [if_neg e] at a;exact ⟨k,by omega,e,a⟩
theorem Qng {n:Nat} (F:Nat->List Int):∀ (K:List Nat) (ps:List (Nat × Nat)) (b:Nat),J4 ps b n->K.length=ps.length->(∀ k,(d:k<K.length)->(a:k<ps.length)->(F K[k]).length=ps[k].2-ps[k].1)->∀ k,(d:k<K.length)->(a:k<ps.length)->b<=ps[k].1/\∀ i,i<ps[k].2-ps[k].1->(K.flatMap F)[ps[k].1-b+i]?=(F K[k])[i]?
 | [],_,_,_,_,_,k,d,_=>by simp at d| _::_,[],_,_,hl,_,_,_,_=>by simp at hl
 | c::K,p::ps,b,⟨h1,h2,h3⟩,hl,h,k,d,a=>by
  have f:=h 0 (by simp) (by simp);simp only [getElem_cons_zero] at f;rw [flatMap_cons];cases k with
  | zero =>simp only [getElem_cons_zero];refine ⟨by omega,λi g=>?_⟩;rw [show p.1-b+i=i by omega,getElem?_append_left (by omega)]
  | succ k =>
   obtain ⟨q,l⟩:=Qng F K ps p.2 h3 (by simpa using hl) (λj m a=>by have:=h (j+1) (by simpa using m) (by simpa using a);simpa using this) k (by simpa using d) (by simpa using a);simp only [getElem_cons_succ];have o:k<ps.length:=by simpa using a
   refine ⟨by omega,λi g=>?_⟩;rw [getElem?_append_right (by omega),f,show ps[k].1-b+i-(p.2-p.1)=ps[k].1-p.2+i by omega,l i g]
theorem Qk1 {R:List RN} (c:Qx R) {T:Int->NI} {L:Nat->Qd}:∀ (f g a:Nat) (s n:Nat),Jd L s n->QaO R L f (Qg R a) s n->ZF R g a->QcT R T L f (Qg R a) (T (Qg R a)).kids s n->∀ x,x ∈ JE T L f (Qg R a) s n->s<=x.2/\x.2<s+n/\(Qm R g a)[x.2-s]?=some x.1
 | 0,_,_,_,_,_,h,_,_,_,_=>h.elim| f+1,0,_,_,_,_,_,h,_,_,_=>h.elim
 | f+1,g+1,a,s,n,hpc,ht,hfit,hkp,x,i=>by
  obtain ⟨t,J,K,M,N,D,u⟩:=ht;obtain ⟨O,v⟩:=hfit;have A:=hpc.pos;have E:Qg R a≠0:=by have:=Qb8 c t;omega
  have o:(Qn R (Qg R a)).map (Qg R)=(Qc R (Qg R a)).kids:=by rw [QdS c t,Qcm R E]
  have B:(Qn R (Qg R a)).length=(Qe L s n).length:=by rw [<- D,<- o,length_map]
  rw [JE] at i;rw [Qm];rcases mem_cons.1 i with rfl|i
  ·refine ⟨X0,by show s<s+n;omega,?_⟩;show (_::_)[s-s]?=some (Qg R a);rw [Nat.sub_self];rfl
  obtain ⟨q,q1,q2,q3⟩:=QlC i;obtain ⟨F,P,y⟩:=hkp q q1 q2;have p:q<(Qn R (Qg R a)).length:=by omega
  have C:(Qe L s n)[q] ∈ Qe L s n:=Xa0 q1;have j:(Qe L s n).getD q (0,0)=(Qe L s n)[q]:=by rw [Xg q1];rfl
  have l:(Qc R (Qg R a)).kids.getD q 0=Qg R (Qn R (Qg R a))[q]:=by rw [<- o,getD_eq_getElem?_getD,getElem?_map,getElem?_eq_getElem p];rfl
  have z:∀ k,(r:k<(Qn R (Qg R a)).length)->(m:k<(Qe L s n).length)->(Qm R g (Qn R (Qg R a))[k]).length=(Qe L s n)[k].2-(Qe L s n)[k].1:=λk r m=>by
   have b:=u k m;have j:(Qe L s n).getD k (0,0)=(Qe L s n)[k]:=by rw [Xg m];rfl
   have l:(Qc R (Qg R a)).kids.getD k 0=Qg R (Qn R (Qg R a))[k]:=by rw [<- o,getD_eq_getElem?_getD,getElem?_map,getElem?_eq_getElem r];rfl
   rw [l,j] at b;have:=(QgA c f g _ _ _ (hpc.part (Xa0 m)).1 b (v _ (Xa0 r))).2;rw [<- Qc2 R g _ (L (s+(Qe L s n)[k].1)).d,length_map];exact this
  obtain ⟨S,G⟩:=Qng (Qm R g) (Qn R (Qg R a)) (Qe L s n) 1 (QdE _ A) B z q p q1;obtain ⟨H,U,_⟩:=hpc.part C;have b:=u q q1;rw [<- F,l,j] at q3;rw [l,j] at b y;obtain ⟨V,W,I⟩:=Qk1 c f g (Qn R (Qg R a))[q] _ _ H b (v _ (Xa0 p)) y x q3;refine ⟨by omega,by omega,?_⟩;have:=G (x.2-(s+(Qe L s n)[q].1)) (by omega);rw [show x.2-s=((Qe L s n)[q].1-1+(x.2-(s+(Qe L s n)[q].1)))+1 by omega,getElem?_cons_succ,this,I]
theorem QkZ (g:Qw R last) (b:r<R.length) (c:R[r].id=1):(Qm R R.length r).length+((R.map λm:RN=>m.id).filter λj=>!(Qm R R.length r).contains j).length=R.length:=by
 obtain ⟨rk,o⟩:=g.up;have d:=g.ids;have p:(R.map λm:RN=>m.id).Nodup:=by unfold List.Nodup;rw [pairwise_map,pairwise_iff_getElem];intro i j q a x f;have:=d.inj i j q a f;omega
 obtain ⟨_,_,_,_,s⟩:=QhZ g b c;have e:Qg R r=1:=by rw [QV b,c]
 have n:∀ j,j ∈ Qm R R.length r->j ∈ R.map λm:RN=>m.id:=λj a=>by have h:=(QeK d R.length r (Qae o b) j).1 a;rw [e] at h;obtain ⟨m,t,u⟩:=QbR d ⟨R[r],Xa0 b,c⟩ h;exact Xa5.2 ⟨m,t,u⟩
 have y:=Qdh (Qm R R.length r) ((R.map λm:RN=>m.id).filter λj=>(Qm R R.length r).contains j) s λj a=>Xa7.2 ⟨n j a,contains_iff_mem.2 a⟩;have z:=Qdh ((R.map λm:RN=>m.id).filter λj=>(Qm R R.length r).contains j) (Qm R R.length r) (p.filter _) λj a=>contains_iff_mem.1 (Xa7.1 a).2;have v:=length_eq_countP_add_countP (λj=>(Qm R R.length r).contains j) (l:=R.map λm:RN=>m.id);have f:(R.map λm:RN=>m.id).countP (λj=>decide ¬ ((Qm R R.length r).contains j)=true)=(R.map λm:RN=>m.id).countP λj=>!(Qm R R.length r).contains j:=countP_congr λk _=>by simp
 rw [f,countP_eq_length_filter,countP_eq_length_filter,length_map] at v;omega
theorem Qwq {s:Int} (c:Qw R last) (k:Qw R' s) {f:Nat} (a:r<R.length) (d:R[r].id=1) (h:f<R'.length) (g:R'[f].id=1) (l:∀ j,(Qr R j/\¬ QG (Qc R) 1 j)↔(Qr R' j/\¬ QG (Qc R') 1 j)):R.length-(Qm R R.length r).length=R'.length-(Qm R' R'.length f).length:=by
 have A:=QkZ c a d;have B:=QkZ k h g;have key:∀ {R:List RN} {last:Int},Qw R last->∀ {r:Nat} (a:r<R.length),R[r].id=1->((R.map λm:RN=>m.id).filter λj=>!(Qm R R.length r).contains j).Nodup/\∀ j,j ∈ ((R.map λm:RN=>m.id).filter λj=>!(Qm R R.length r).contains j)↔(Qr R j/\¬ QG (Qc R) 1 j):=fun {R last} c {r} a d=>by
  obtain ⟨rk,t⟩:=c.up;have n:=c.ids;have e:Qg R r=1:=by rw [QV a,d]
  refine ⟨List.Pairwise.filter _ ?_,λj=>?_⟩
  ·rw [pairwise_map,pairwise_iff_getElem];intro i j u b z v;have:=n.inj i j u b v;omega
  have o:=QeK n R.length r (Qae t a) j;rw [e] at o;rw [mem_filter,mem_map,<- o,Bool.not_eq_true',<- Bool.not_eq_true,contains_iff_mem];exact Iff.rfl
 obtain ⟨x,p⟩:=key c a d;obtain ⟨y,q⟩:=key k h g;have C:=Qdh _ _ x λj b=>(q j).2 ((l j).1 ((p j).1 b));have D:=Qdh _ _ y λj b=>(p j).2 ((l j).2 ((q j).1 b));omega
theorem QhC (a:Nat->Qh):∀ (k:Nat) (R:List RN) (l:Int),QC R l a (k+1)=QC (QN R (a 0)) (Jz l (a 0)) (λi=>a (i+1)) k| 0,_,_=>rfl| k+1,R,l=>by rw [QC,QhC a k R l];rfl
theorem QqJ {l a:Int} (g:ZQ R l P R' a):JK R l (Zg P) P.length/\QC R l (Zg P) P.length=(R',a):=by
 induction g with
 | nil R l=>exact ⟨JK.zero R l _,rfl⟩
 | @cons R R' l a x P b h ih =>
  obtain ⟨c,d⟩:=ih;have e:(λi=>Zg (x::P) (i+1))=Zg P:=rfl;refine ⟨λj f=>?_,?_⟩
  ·cases j with| zero=>exact b| succ j =>rw [QhC];exact c j (by simpa using f)
  rw [length_cons,QhC];exact d
theorem Qqb (o:Qw R last) (G:last<=4611686018427387904) (d:canP R last x=true):x.Ok/\x.Ints:=by
 have F:=o.last_pos;have n:∀ i,0<=Qk R i->Qu i:=λi h=>by
  rcases QaG o.ids i with ⟨k,r,e,_⟩|⟨_,e⟩
  ·have t:=o.ids.pos _ (Xa0 r);have u:=o.top _ (Xa0 r);rw [e] at t u;exact ⟨by omega,by omega⟩
  omega
 have j:Qu 0:=⟨by decide,by decide⟩;have b:∀ {s:ByteArray},s.toList.isEmpty=true->s.size<=maxLen:=fun {s} f=>by rw [Qjn f];exact X3
 have v:∀ {s:ByteArray},(s.size:Int)<=20->s.size<=maxLen:=fun {s} f=>by unfold maxLen;omega
 have nm:∀ {s:ByteArray},QK s=true->s.size<=maxLen:=fun {s} f=>by have:=Qd0 f;unfold maxLen;omega
 unfold canP at d;split at d
 ·unfold Jy at d;simp only [Bool.and_eq_true,beq_iff_eq,decide_eq_true_eq] at d;obtain ⟨⟨⟨⟨⟨l,y⟩,g⟩,c⟩,z⟩,A⟩:=d;unfold ZZ at l;have f:=Qgq (m:=JP x.tag x.key x.text) (by simpa using l);have t:x.tag.size<=8:=f.1;have u:x.text.size<=20:=f.2;exact ⟨⟨by unfold maxLen;omega,b A,by unfold maxLen;omega⟩,⟨⟨by omega,by omega⟩,by rw [c];exact j,by rw [z];exact j⟩⟩
 simp only [Bool.and_eq_true,decide_eq_true_eq] at d;obtain ⟨⟨⟨l,y⟩,g⟩,c⟩:=d;split at c
 ·unfold insB at c;simp only [Bool.and_eq_true,decide_eq_true_eq,Bool.or_eq_true] at c;obtain ⟨⟨⟨⟨⟨⟨p,q⟩,a⟩,B⟩,H⟩,C⟩,I⟩:=c;refine ⟨⟨b g,b p,b q⟩,⟨n _ l,n _ B,?_⟩⟩;rcases C with e|e
  ·have:x.bef=0:=by simpa using e
   rw [this];exact j
  exact n _ e.1.1
 simp only [Bool.and_eq_true] at c;obtain ⟨⟨p,q⟩,a⟩:=c;have D:x.par=0:=by simpa using p
 have E:x.bef=0:=by simpa using q
 have h:x.Ints:=⟨n _ l,by rw [D];exact j,by rw [E];exact j⟩;split at a
 ·unfold Qcv at a;simp only [Bool.and_eq_true] at a;exact ⟨⟨b g,b a.1.1,b a.1.2⟩,h⟩
 split at a
 ·unfold Qcq at a;simp only [Bool.and_eq_true,decide_eq_true_eq] at a;exact ⟨⟨b g,b a.1.1,v a.1.2⟩,h⟩
 split at a
 ·unfold Qbv at a;simp only [Bool.and_eq_true,decide_eq_true_eq] at a;exact ⟨⟨b g,nm a.1.1.1,v a.1.2⟩,h⟩
 split at a
 ·unfold QbY at a;simp only [Bool.and_eq_true,decide_eq_true_eq] at a;exact ⟨⟨b g,nm a.1.1.1.1,b a.2⟩,h⟩
 cases a
theorem Qq0 (f:Qw R last) (b:Zw R) (a:JK R last X n) (g:last+n<=4611686018427387904):∀ i,i<n->(X i).Ok/\(X i).Ints:=λi c=>by obtain ⟨d,_,h⟩:=JK.ok f b (k:=i) λj l=>a j (by omega);exact Qqb d (by omega) (a i c)
theorem Qtu (m:Qw R last) (B:Zw R) (p:∀ i,QcH (Qc R i)) (d:∀ i,(Qc R i).kids.length<=1000/\(Qc R i).ats.length<=5) (q:0<n) (h:∀ i,i<n->QF L i=true) (C:(Qc R 1).tag=(L 0).t) (H:(Qc R 1).key=(L 0).k) (V:R.length+n<=800) (D:r<R.length) (z:R[r].id=1) : ∃ R' g,ZQ R last (QcG R last L n) R' g/\Qw R' g/\Zw R'/\g<=last+n/\(∀ j,JS j (QcG R last L n)=QaI (Qc R) L n 1 0 n j)/\∃ a,∃ b:a<R'.length,R'[a].id=1/\R.length-(Qm R R.length r).length=R'.length-(Qm R' R'.length a).length/\QaK R' L (Qo R' R'.length a 0) 0/\(Qo R' R'.length a 0).length=n/\∀ x,x ∈ JE (Qc R) L n 1 0 n->x.2<n/\(Qm R' R'.length a)[x.2]?=some x.1:=by
 have G:Qr R 1:=⟨R[r],Xa0 D,z⟩;have f:=QfI q h;obtain ⟨R',E,F,I,J,X,K⟩:=QkJ (L:=L) p d n R last 1 (Qc R 1) 0 n m B X0 f G rfl (p 1) C H (by omega) (λj _ _=>rfl);obtain ⟨c,M⟩:=E.ok m B;have W:=QfG (L:=L) d n 1 (Qc R 1) 0 n last (d 1).1 (d 1).2 q X0 (λi N=>by rw [Nat.zero_add];exact (QaW (Qbf (h i N))).1);obtain ⟨a,b,l,_⟩:=Qic c;obtain ⟨rk,O⟩:=c.up;have A:=c.ids;have e:Qg R' a=1:=by rw [QV b,l]
 have y:=Qae O b;have o:=QgA A n R'.length a 0 n f (by rw [e];exact F) y;rw [Qfu (h 0 q)] at o;refine ⟨R',_,E,c,M,by omega,λj=>?_,a,b,l,?_,o.1,o.2,λx P=>?_⟩
 ·exact Qmr p n 1 0 n last j f X0 C
 ·refine Qwq m c D z b l λj=>⟨λ⟨s,u⟩=>?_,λ⟨s,u⟩=>?_⟩
  ·obtain ⟨S,_,U⟩:=I j s u;exact ⟨S,U⟩
  rcases J j s with v|v
  ·exact v
  exact absurd v u
 have:=Qk1 A (T:=Qc R) n R'.length a 0 n f (by rw [e];exact F) y (by rw [e];exact K) x (by rw [e];exact P);rw [Nat.zero_add,Nat.sub_zero] at this;exact ⟨this.2.1,this.2.2⟩
def JG (P:List Qh):Prop:=∀ a,a ∈ P->Qu a.key
theorem Qek:Qu 0:=by unfold Qu;omega
theorem JG.nil:JG []:=λ_ a=>by simp at a
theorem JG.app {a:List Qh} (d:JG P) (k:JG a):JG (P++a):=λb c=>by
 rcases Xa4.1 c with e|e
 ·exact d b e
 exact k b e
theorem JG.one (b:Qu x.key):JG [x]:=λc a=>by rw [mem_singleton.1 a];exact b
theorem JG.cond {b:Bool} {a:List Qh} (c:JG P) (k:JG a):JG (bif b then P else a):=by cases b<;>assumption
theorem QnE (id:Int) (nm a:Nat->ByteArray) (b:Nat):∀ k,JG (Qav id nm a b k)| 0=>JG.nil| k+1=>(QnE id nm a b k).app (.cond .nil (.one Qek))
theorem Qkq (id:Int) (nm vl:Nat->ByteArray) (n:Nat) (a b:Nat->ByteArray):∀ k,JG (QaX id nm vl n a b k)| 0=>JG.nil| k+1=>(Qkq id nm vl n a b k).app (.cond .nil (.one Qek))
theorem Qnl (ks:Nat->Int) (pr:List Int):∀ k,JG (ZK ks pr k)| 0=>JG.nil| k+1=>(Qnl ks pr k).app (.cond .nil (.one Qek))
def Qkt (br:Br) (L:Nat->Qd) (f:Nat):Prop:=∀ (id:Int) (x:NI) (s n:Nat) (last:Int),1<=n->n<=f->(∀ i,i<n->Qu (L (s+i)).k)->JG (br id x s n last).1
theorem QkM {br:Br} {T:Int->NI} {L:Nat->Qd} {f:Nat} (d:Qkt br L f) (id:Int) (b:List Int) (s n:Nat) (y:n<=f+1) (g:∀ i,i<n->Qu (L (s+i)).k) (ps:List (Nat × Nat)) (l:∀ a,a ∈ ps->1<=a.1/\a.1<a.2/\a.2<=n) (pr:List Int) (q:KS) (o:JG q.pats):∀ k,k<=ps.length->JG (Zq br T L id b s ps pr q k).pats
 | 0,_=>o
 | k+1,hk=>by
  have h:=QkM (T:=T) d id b s n y g ps l pr q o k (by omega);have z:ps.getD k (0,0) ∈ ps:=by rw [Xg (by omega)];exact Xa0 _
  obtain ⟨A,B,C⟩:=l _ z;rw [Zq];generalize Zq br T L id b s ps pr q k=c at *;generalize ps.getD k (0,0)=a at *;generalize pr.getD k 0=p at *;have m:∀ i,i<a.2-a.1->Qu (L (s+a.1+i)).k:=λi D=>by rw [Nat.add_assoc];exact g _ (by omega)
  have r:=d (b.getD p.toNat 0) (T (b.getD p.toNat 0)) (s+a.1) (a.2-a.1) c.last (by omega) (by omega) m;have v:=d (c.last+1) ⟨(L (s+a.1)).k,(L (s+a.1)).t,(L (s+a.1)).x,[],[]⟩ (s+a.1) (a.2-a.1) (c.last+1) (by omega) (by omega) m;by_cases j:c.stay.head?=some p
  ·rw [Qdg j];exact h.app r
  by_cases u:p=-1
  ·rw [Qdi j u];exact ((h.app (.one (g a.1 (by omega)))).app (.one Qek)).app v
  rw [QdD j u];exact (h.app (.one Qek)).app r
theorem Qlo {T:Int->NI} {L:Nat->Qd}:∀ f,Qkt (ZE T L f) L f| 0=>λ_ _ _ _ _ i k _=>by omega| f+1=>λid x s n last b c d=>by have g:=QkM (T:=T) (Qlo (T:=T) f) id x.kids s n c d (Qe L s n) (λa h=>Qce b h) (QE T L x.kids s (Qe L s n)) ⟨ZK (λj=>x.kids.getD j 0) (QE T L x.kids s (Qe L s n)) x.kids.length,Q4 (QE T L x.kids s (Qe L s n)),last⟩ (Qnl _ _ _) (Qe L s n).length X0;simp only [ZE,Qad,JR];refine JG.app (JG.app ?_ (JG.app (QnE _ _ _ _ _) (Qkq _ _ _ _ _ _ _))) g;unfold Jo;exact .cond .nil (.one Qek)
end Go.Proofs.YtobgcaemnpkbmaaGreat
