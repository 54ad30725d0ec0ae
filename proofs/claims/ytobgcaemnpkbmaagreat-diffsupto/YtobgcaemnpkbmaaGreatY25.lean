import Derived.Test.YtobgcaemnpkbmaaGreatY24
namespace Go.Proofs.YtobgcaemnpkbmaaGreat
set_option maxRecDepth 100000
set_option maxHeartbeats 8000000
open Go.RowKit List
variable {id:Int} {T:Int->NI} {ps:List (Nat × Nat)} {I pr:List Int} {R:List RN} {xs:List Value} {B N a b c cb f g i j k m n o p q s size:Nat} {K:Nat->Nat} {L:Nat->Qd} {ao:Option Addr} {e:TypeId} {av av' iv kv tv v v':Value} {w w' w0 w1 w2:World}
def Qcd (l:List ByteArray):List Value:=l.map λx=>.string x
theorem Qr3 (l:List ByteArray):(Qcd l).length=l.length:=by unfold Qcd;simp
theorem Ql7 (l:List ByteArray) (x:ByteArray):Qcd (l++[x])=Qcd l++[.string x]:=by unfold Qcd;simp
theorem QtL:(Tryz.prog.info? 9).map (λi=>(i.zero,i.size,i.bytes))=some (some Xo,1,16):=by kernel_rfl
structure TK (w:World) (B:Nat) (tv kv:Value) (T:List ByteArray) (Q:List Int):Prop where
 t:w.ownsRow B 9 1 tv T.length (Qcd T)
 k:w.ownsRow B 3 1 kv Q.length (Qs Q)
 ap:∀ x,tv.ownBlock=some x->kv.ownBlock≠some x
theorem TK.nil (w:World) (B:Nat):TK w B Xv Xv [] []:=⟨Xc0 _ _ _ _,Xc0 _ _ _ _,λ_ e=>by cases e⟩
theorem TK.addT {c f:Nat} {T:List ByteArray} {h:List Int} {x:ByteArray} (a:TK w B tv kv T h) (j:Xb w w1) (l:w2.ownsRow B 9 1 (.slice (some (Xa g 0)) (T.length+1) c) (T.length+1) (Qcd T++[.string x])) (m:w1.grownBy w2 tv.ownBlock) (i:tv.ownBlock=some g \/ g=f) (o:w.heap.size<=f):TK w2 B (.slice (some (Xa g 0)) (T.length+1) c) kv (T++[x]) h:=by
 refine ⟨?_,World.ownsRow.kept (QX a.k j) m ?_,λb e d=>?_⟩
 ·rw [Ql7,length_append];exact l
 ·cases n:kv.ownBlock with| none=>exact .inl rfl| some b=>exact .inr λe=>a.ap b e.symm n
 have e:some g=some b:=e;cases e;rcases i with e|e
 ·exact a.ap g e d
 have:=(a.k.lt g d).2;omega
theorem TK.addK {f i:Nat} {T:List ByteArray} {a:List Int} {x:Int} (b:TK w B tv kv T a) (k:Xb w w1) (l:w2.ownsRow B 3 1 (.slice (some (Xa g 0)) (a.length+1) f) (a.length+1) (Qs a++[Xi x])) (m:w1.grownBy w2 kv.ownBlock) (j:kv.ownBlock=some g \/ g=i) (o:w.heap.size<=i):TK w2 B tv (.slice (some (Xa g 0)) (a.length+1) f) T (a++[x]):=by
 refine ⟨World.ownsRow.kept (QX b.t k) m ?_,?_,λd e c=>?_⟩
 ·cases n:tv.ownBlock with| none=>exact .inl rfl| some d=>exact .inr λe=>b.ap d n e.symm
 ·rw [QcR,length_append];exact l
 have c:some g=some d:=c;cases c;rcases j with h|h
 ·exact b.ap g e h
 have:=(b.t.lt g e).2;omega
theorem TK.growT {T:List ByteArray} {h:List Int} {x:ByteArray} (a:TK w B tv kv T h) (d:Xb w w1) (i:w2.ownsRow B 9 1 v' (T.length+1) (Qcd T++[.string x])) (f:ZV w1 w2 tv v'):TK w2 B v' kv (T++[x]) h:=by
 refine ⟨?_,World.ownsRow.kept (QX a.k d) f.by ?_,λb e g=>?_⟩
 ·rw [Ql7,length_append];exact i
 ·cases j:kv.ownBlock with| none=>exact .inl rfl| some b=>exact .inr λe=>a.ap b e.symm j
 rcases f.at with c|c
 ·exact a.ap b (c.symm.trans e) g
 have l:=(a.k.lt b g).2;have m:=d.size;rw [c] at e;cases e;omega
theorem TK.growK {T:List ByteArray} {a:List Int} {x:Int} (b:TK w B tv kv T a) (g:Xb w w1) (i:w2.ownsRow B 3 1 v' (a.length+1) (Qs a++[Xi x])) (h:ZV w1 w2 kv v'):TK w2 B tv v' T (a++[x]):=by
 refine ⟨World.ownsRow.kept (QX b.t g) h.by ?_,?_,λc e d=>?_⟩
 ·cases j:tv.ownBlock with| none=>exact .inl rfl| some c=>exact .inr λe=>b.ap c j e.symm
 ·rw [QcR,length_append];exact i
 rcases h.at with f|f
 ·exact b.ap c e (f.symm.trans d)
 have k:=(b.t.lt c e).2;have l:=g.size;rw [f] at d;cases d;omega
theorem QlA {l:List ByteArray} (a:w.ownsRow B 9 1 (.slice ao n c) n (Qcd l)) (k:j<n):∃ g,∃ b:j<l.length,ao=some (Xa g 0)/\w.cell? (Xa g j)=some (.string l[j])/\B<=g/\g<w.heap.size:=by
 have b:l.length=n:=by have:=a.1;rw [Qr3] at this;omega
 rcases a.2 with ⟨e,m⟩|⟨g,h,i,e,d,f,_⟩
 ·omega
 simp at e;obtain ⟨rfl,rfl⟩:=e;refine ⟨g,by omega,rfl,?_,d,(Xd0.1 f).1⟩;rw [a.cellAt j (by omega)];unfold Qcd;rw [getElem?_map,getElem?_eq_getElem (by omega)];rfl
theorem TK.row {T:List ByteArray} {a:List Int} (b:TK w B tv kv T a) (m:T.length=a.length) (n:0<T.length):∃ c f d h,tv=.slice (some (Xa c 0)) T.length f/\kv=.slice (some (Xa d 0)) T.length h/\B<=c/\B<=d/\Qd3 w c d T.length λi=>(T.getD i ⟨#[]⟩,a.getD i 0):=by
 obtain ⟨ao,f,rfl⟩:=Qy b.t;obtain ⟨u,h,rfl⟩:=Qy b.k;obtain ⟨c,_,rfl,_,o,p⟩:=QlA b.t n;obtain ⟨d,_,rfl,_,r,s⟩:=Qb0 b.k (by omega:0<a.length);refine ⟨c,f,d,h,rfl,by rw [m],o,r,p,s,λi l=>?_,λi l=>?_⟩
 ·obtain ⟨g,q,e,j,_⟩:=QlA b.t l;cases e;rw [j,Xg q];rfl
 obtain ⟨g,q,e,j,_⟩:=Qb0 b.k (by omega:i<a.length);cases e;rw [j];show _=some (Value.int .i64 (a.getD i 0));rw [Xg q];rfl
def QcK (R:List RN) (i:Nat):ByteArray:=match R[i]? with|some n=>n.tag|none=>⟨#[]⟩
def QcB (R:List RN) (i:Nat):Int:=match R[i]? with|some n=>n.key|none=>0
theorem QmA (a:i<R.length):QcK R i=R[i].tag:=by unfold QcK;rw [getElem?_eq_getElem a]
theorem QmI (a:i<R.length):QcB R i=R[i].key:=by unfold QcB;rw [getElem?_eq_getElem a]
theorem Qgj {α a:Type} (f:α->a) {l:List α} (b:k<l.length):(l.take (k+1)).map f=(l.take k).map f++[f l[k]]:=by rw [take_succ_eq_append_getElem b,map_append];rfl
theorem Qhc {α a:Type} (f:α->a) {l:List α} (b:k<=l.length):((l.take k).map f).length=k:=by rw [length_map,length_take];omega
theorem Qhi {L:Nat->Qd} {s x:Nat}:∀ {k:Nat},x ∈ Jr L s k↔s<x/\x<s+1+k/\(L x).d=(L s).d+1
 | 0=>by rw [Jr];simp only [not_mem_nil,false_iff];omega
 | k+1=>by
  rw [Jr,mem_append,Qhi (k:=k)];by_cases e:(L (s+1+k)).d=(L s).d+1
  ·rw [if_pos e,mem_singleton];constructor
   ·rintro (a|a)
    ·exact ⟨a.1,by omega,a.2.2⟩
    subst a;exact ⟨by omega,by omega,e⟩
   intro ⟨c,g,b⟩;by_cases f:x=s+1+k
   ·exact .inr f
   exact .inl ⟨c,by omega,b⟩
  rw [if_neg e];constructor
  ·rintro (a|a)
   ·exact ⟨a.1,by omega,a.2.2⟩
   cases a
  intro ⟨c,g,b⟩;by_cases f:x=s+1+k
  ·subst f;exact absurd b e
  exact .inl ⟨c,by omega,b⟩
theorem Qk8 {L:Nat->Qd} {s:Nat}:∀ k,(Jr L s k).Pairwise (·<·)
 | 0=>List.Pairwise.nil
 | k+1=>by
  rw [Jr,pairwise_append];refine ⟨Qk8 k,?_,λa d b c=>?_⟩
  ·split
   ·exact pairwise_singleton _ _
   exact List.Pairwise.nil
  have:=(Qhi.1 d).2.1;split at c
  ·rw [mem_singleton] at c;omega
  cases c
theorem J4.rise:∀ {l:List (Nat × Nat)} {a b:Nat},J4 l a b->(l.map (·.1)).Pairwise (·<·)/\∀ p,p ∈ l->a<=p.1
 | [],_,_,_=>⟨List.Pairwise.nil,λp h=>by cases h⟩
 | q::l,a,b,⟨h1,h2,h3⟩=>by
  obtain ⟨f,d⟩:=J4.rise h3;refine ⟨pairwise_cons.2 ⟨λx g=>?_,f⟩,λp c=>?_⟩
  ·obtain ⟨p,c,rfl⟩:=Xa5.1 g;have:=d p c;show q.1<p.1;omega
  rcases mem_cons.1 c with e|e
  ·subst e;omega
  have:=d p e;omega
theorem QnQ:∀ {l m:List Nat},l.Pairwise (·<·)->m.Pairwise (·<·)->(∀ x,x ∈ l↔x ∈ m)->l=m
 | [],[],_,_,_=>rfl| [],b::m,_,_,h=>by have:=(h b).2 (mem_cons_self ..);cases this| a::l,[],_,_,h=>by have:=(h a).1 (mem_cons_self ..);cases this
 | a::l,b::m,h1,h2,h=>by
  obtain ⟨f,g⟩:=pairwise_cons.1 h1;obtain ⟨q1,q2⟩:=pairwise_cons.1 h2;have e:a=b:=by
   have i:=(h a).1 (mem_cons_self ..);have j:=(h b).2 (mem_cons_self ..);rcases mem_cons.1 i with e|e
   ·exact e
   rcases mem_cons.1 j with d|d
   ·exact d.symm
   have:=q1 a e;have:=f b d;omega
  subst e;refine congrArg _ (QnQ g q2 λx=>⟨λc=>?_,λc=>?_⟩)
  ·rcases mem_cons.1 ((h x).1 (Xa8 _ c)) with e|e
   ·have:=f x c;omega
   exact e
  rcases mem_cons.1 ((h x).2 (Xa8 _ c)) with e|e
  ·have:=q1 x c;omega
  exact e
theorem Qnz (c:Jd L s n):Jr L s (n-1)=(Qe L s n).map λa=>s+a.1:=by
 have g:=c.pos;have h:J4 (Qe L s n) 1 n:=QdE _ g;refine QnQ (Qk8 _) ?_ λx=>?_
 ·have b:=(J4.rise h).1;rw [pairwise_map] at b ⊢;exact b.imp λc=>by omega
 rw [Qhi];have i:=QeE c (x-s);constructor
 ·intro ⟨b,j,d⟩;have k:=i.2 ⟨by omega,by omega,by rw [Nat.add_sub_cancel' (by omega)];exact d⟩;obtain ⟨q,f,e⟩:=Xa5.1 k;exact Xa5.2 ⟨q,f,by omega⟩
 intro l;obtain ⟨q,f,rfl⟩:=Xa5.1 l;obtain ⟨b,j,d⟩:=(QeE c q.1).1 (Xa5.2 ⟨q,f,rfl⟩);exact ⟨by omega,by omega,d⟩
theorem QgO {c:Value} (a:w.ownsRow B e size v n xs) (d:Q7 cb iv av w c av' w') (f:∀ x,ZY cb iv av x->x<B):w'.ownsRow B e size v n xs := Q8 a λb e=>d.touch.block b (a.lt b e).2 λg=>by have h:=f b g;have i:=(a.lt b e).1;omega
theorem TK.stp {f:Value} {T:List ByteArray} {d:List Int} (a:TK w B tv kv T d) (b:Q7 cb iv av w f av' w') (c:∀ x,ZY cb iv av x->x<B):TK w' B tv kv T d:=⟨QgO a.t b c,QgO a.k b c,a.ap⟩
theorem TK.below {T:List ByteArray} {c:List Int} (a:TK w B tv kv T c) (b:Xb w w'):TK w' B tv kv T c:=⟨QX a.t b,QX a.k b,a.ap⟩
def QcW (T:List ByteArray) (a:List Int) (i:Nat):ByteArray × Int:=(T.getD i ⟨#[]⟩,a.getD i 0)
theorem Qn2 {q:Nat} {d f:Value} {T a:List ByteArray} {c b:List Int} (E:TK w B tv kv T c) (r:TK w q d f a b) (s:T.length=c.length) (k:a.length=b.length) (t:T.length<=1000) (u:a.length<=1000) (j:T.length=0->tv=Xv/\kv=Xv) (v:i<a.length) : Xl 74 #[tv,kv,d,f,Xi (i:Int)] w λe w'=>e=.returned (Xi (J0 (QcW T c) (QcW a b) i T.length))/\Xb w w':=by
 by_cases g:0<T.length
 ·obtain ⟨x,y,z,A,rfl,rfl,_,_,C⟩:=E.row s g;obtain ⟨l,m,n,o,rfl,rfl,_,_,p⟩:=r.row k (by omega);exact Qv2 x z T.length y A l n a.length m o i (QcW T c) (QcW a b) w t u C p v g
 have h:T.length=0:=by omega
 obtain ⟨rfl,rfl⟩:=j h;rw [h];refine (Quk d f (i:Int) w).mono ?_;rintro e w' ⟨D,rfl⟩;exact ⟨D,X4⟩
theorem Qhx {A b:Nat->ByteArray × Int} {i:Nat} (a:∀ q,q<=i->A q=b q):∀ k,k<=i->ZR A i k=ZR b i k| 0,_=>rfl| k+1,hk=>by rw [ZR,ZR,Qhx a k (by omega),a k (by omega),a i X0]
theorem Qla {A a B b:Nat->ByteArray × Int} {j:Nat} (c:∀ q,q<=j->B q=b q):∀ n,(∀ q,q<n->A q=a q)->J0 A B j n=J0 a b j n
 | 0,_=>rfl
 | n+1,hA=>by
  have e:J6 A B j n=J6 a b j n:=by unfold J6;rw [hA n (by omega),c j X0,Qhx (λq d=>hA q (by omega)) n X0,Qhx c j X0]
  rw [J0,J0,Qla c n λq d=>hA q (by omega),e]
theorem QjZ {L:Nat->Qd} {i j:Nat} (a:(L i).k≠0) (c:(L j).d=(L i).d) (f:(L j).k=(L i).k):∀ m,j<m->(∀ q,j<q->q<m->(L i).d<=(L q).d)->Z4 L i m=false
 | 0,h,_=>by omega
 | m+1,h,hq=>by
  by_cases e:j=m
  ·subst e;exact Qhd (by omega) a c f
  have l:=hq m (by omega) (by omega);have ih:=QjZ a c f m (by omega) λq g n=>hq q g (by omega);by_cases b:(L i).k≠0/\(L m).d=(L i).d/\(L m).k=(L i).k
  ·exact Qhd (by omega) a b.2.1 b.2.2
  rw [QeL (by omega) b];exact ih
theorem Qph (a:QF L i=true) (b:0<i):Z4 L i i=true:=by unfold QF at a;rw [if_neg (by omega)] at a;simp only [Bool.and_eq_true] at a;exact a.2
theorem Qmw (c:∀ i,i<N->QF L i=true) (h:Jd L s n) (l:s+n<=N) {x a:Nat} (o:0<x) (m:x<a) (p:a<n) (r:(L (s+x)).d=(L s).d+1) (t:(L (s+a)).d=(L s).d+1) (f:(L (s+x)).k=(L (s+a)).k):(L (s+a)).k=0:=by
 apply Classical.byContradiction;intro g;have b:=QjZ (L:=L) (i:=s+a) (j:=s+x) g (by omega) f (s+a) (by omega) λq u v=>by have:=h.deep (q-s) (by omega) (by omega);rw [Nat.add_sub_cancel' (by omega)] at this;omega
 rw [Qph (c (s+a) (by omega)) (by omega)] at b;cases b
theorem Qtm (E:Qx R) (p:∀ i,i<N->QF L i=true) (c:Jd L s n) (r:s+n<=N) (B:id≠0) (u:i<(Qe L s n).length) : J0 (QcW ((Qn R id).map (QcK R)) ((Qn R id).map (QcB R))) (QcW ((Jr L s (n-1)).map λi=>(L i).t) ((Jr L s (n-1)).map λi=>(L i).k)) i (Qn R id).length=(QE (Qc R) L (Qf R id) s (Qe L s n)).getD i 0:=by
 have v:=Qcm R B;have C:(Qf R id).length=(Qn R id).length:=by rw [<- v,length_map]
 unfold QE QaJ;rw [getD_eq_getElem?_getD,getElem?_map,getElem?_range u,Option.map_some,Option.getD_some];rw [<- Qwg (m:=(Qe L s n).length) ?_ u,C]
 ·refine Qla (λq h=>?_) _ λq h=>?_
  ·rw [Qnz c];unfold QcW;have D:q<(Qe L s n).length:=by omega
   simp only [getD_eq_getElem?_getD,getElem?_map,getElem?_eq_getElem D,Option.map_some,Option.getD_some]
  unfold QcW;have g:=(Qcy (Xa0 h)).1;have e:(Qf R id).getD q 0=R[(Qn R id)[q]].id:=by rw [<- v,getD_eq_getElem?_getD,getElem?_map,getElem?_eq_getElem h];show Qg R _=_;rw [QV g]
  rw [e,JC E (getElem_mem g)];simp only [getD_eq_getElem?_getD,getElem?_map,getElem?_eq_getElem h,Option.map_some,Option.getD_some,QmA g,QmI g]
 intro a b j l e x;have y:(Qe L s n).getD a (0,0)=(Qe L s n)[a]:=by rw [Xg j];rfl
 have F:(Qe L s n).getD b (0,0)=(Qe L s n)[b]:=by rw [Xg l];rfl
 rw [y,F] at e;rw [y] at x;have o:=congrArg Prod.snd e;simp only at o x;obtain ⟨G,H,z⟩:=(QeE c _).1 (Xa5.2 ⟨_,Xa0 j,rfl⟩);obtain ⟨I,J,A⟩:=(QeE c _).1 (Xa5.2 ⟨_,Xa0 l,rfl⟩);have f:=(J4.rise (QdE (λi=>(L (s+i)).d) c.pos)).1;have f:((Qe L s n).map (·.1)).Pairwise (·<·):=f;rw [pairwise_map,pairwise_iff_getElem] at f;rcases Nat.lt_trichotomy a b with q|q|q
 ·have:=f a b j l q;have:=Qmw p c r G this J z A o;omega
 ·exact q
 have:=f b a l j q;have:=Qmw p c r I this H A z o.symm;omega
theorem Qil:∀ {ps:List (Nat × Nat)} {a b:Nat},J4 ps a b->a+ps.length<=b/\∀ k,k<ps.length->a<=(ps.getD k (0,0)).1/\(ps.getD k (0,0)).1<(ps.getD k (0,0)).2/\(ps.getD k (0,0)).2<=b/\(k=0->(ps.getD k (0,0)).1=a)/\(k+1<ps.length->(ps.getD (k+1) (0,0)).1=(ps.getD k (0,0)).2)| [],a,b,g=>by have g:a=b:=g;exact ⟨by simp;omega,λk c=>by simp at c⟩| p::l,a,b,⟨h1,h2,h3⟩=>by obtain ⟨m,f⟩:=Qil h3;refine ⟨by simp only [length_cons];omega,λk c=>?_⟩;cases k with| zero =>simp only [getD_cons_zero,getD_cons_succ];refine ⟨by omega,h2,by omega,λ_=>h1,λd=>?_⟩;exact (f 0 (by simpa using d)).2.2.2.1 rfl| succ k =>simp only [getD_cons_succ];obtain ⟨n,h,i,o,j⟩:=f k (by simpa using c);exact ⟨by omega,h,i,λe=>by omega,λd=>j (by simpa using d)⟩
theorem QgM (g:J4 ps a b) (F:Nat->Nat) (o:F 0=0) (c:∀ k,k<ps.length->F (k+1)<=F k+1000*((ps.getD k (0,0)).2-(ps.getD k (0,0)).1)):(∀ k,k<ps.length->F k<=1000*((ps.getD k (0,0)).1-a))/\∀ k,k<=ps.length->F k<=1000*(b-a):=by
 obtain ⟨q1,q2⟩:=Qil g;have key:∀ k,k<ps.length->F k<=1000*((ps.getD k (0,0)).1-a):=by
  intro k;induction k with
  | zero=>intro _;omega
  | succ k ih =>intro d;have h:=ih (by omega);have i:=c k (by omega);obtain ⟨j,l,m,n,f⟩:=q2 k (by omega);rw [f d];omega
 refine ⟨key,λk d=>?_⟩;cases k with| zero=>omega| succ k =>have h:=key k (by omega);have i:=c k (by omega);obtain ⟨j,l,m,n,f⟩:=q2 k (by omega);omega
theorem Qf0 (a:Jd L s n):J4 (Qe L s n) 1 n:=QdE _ a.pos
theorem QcZ (a:k<(Qe L s n).length):(Qe L s n).getD k (0,0) ∈ Qe L s n:=by rw [Xg a];exact Xa0 a
theorem QmC (b:Jd L s n) (j:Nat):Qao L s (j:Int) n<=7*n:=by rw [<- QhK];exact Qiu j n λi a=>(QaW (b.node i a)).1
theorem Qol (nm vl:Nat->ByteArray) (n:Nat) (a b:Nat->ByteArray) (k:Nat):Qcc nm vl n a b k<=k:=by rw [<- Qik];exact QgG _ _ _ _ _ k
theorem Qus (nm a:Nat->ByteArray) (b k:Nat):QcL nm a b k<=k:=by rw [<- Qia];exact Qi8 _ _ _ k
theorem Qka {x:NI} {m:Qd} (a:x.ats.length<=5) (b:m.an<=5) (j:Int):Qa4 x m j<=10:=by
 have c:=Qol (QP x.ats) (Q6 x.ats) x.ats.length m.nm m.vl m.an;have d:=Qus (QP x.ats) m.nm m.an x.ats.length;unfold Qa4;repeat' split
 all_goals omega
theorem Qpp (pr:List Int) (k:Nat):Qaf pr k<=k:=by unfold Qaf;have a:=countP_le_length (p:=λp:Int=>!(p==-1)) (l:=pr.take k);rw [length_take] at a;omega
theorem QfA {T:Int->NI} (c:∀ i,(T i).kids.length<=800/\(T i).ats.length<=5) {L:Nat->Qd}:∀ (f:Nat) (id:Int) (s n:Nat),n<=800->Jd L s n->(∀ j:Nat,QaI T L f id s n (j:Int)<=1000*n)/\(JE T L f id s n).length<=n
 | 0,id,s,n,_,_=>⟨λj=>X3,X3⟩
 | f+1,id,s,n,hn,h=>by
  have p:=h.pos;have ih:=QfA c (L:=L) f;have d:∀ k,k<(Qe L s n).length->Jd L (s+((Qe L s n).getD k (0,0)).1) (((Qe L s n).getD k (0,0)).2-((Qe L s n).getD k (0,0)).1)/\((Qe L s n).getD k (0,0)).2<=n:=λk a=>⟨(h.part (QcZ a)).1,(h.part (QcZ a)).2.1.2.2⟩;refine ⟨λj=>?_,?_⟩
  ·have l:=(QgM (Qf0 h) (Qbw (j:Int) (QaI T L f) L (T id).kids s (Qe L s n) (QE T L (T id).kids s (Qe L s n))) rfl λk a=>by
    obtain ⟨b,m⟩:=d k a;rw [Qbw];split
    ·have:=QmC b j;omega
    have:=(ih ((T id).kids.getD ((QE T L (T id).kids s (Qe L s n)).getD k 0).toNat 0) _ _ (by omega) b).1 j;omega).2 _ X0
   have o:=Qka (c id).2 (QaW (h.node 0 (by omega))).1 (j:Int);have a:=Qpp (QE T L (T id).kids s (Qe L s n)) (Qe L s n).length;have r:=(Qil (Qf0 h)).1;have q:=(c id).1;rw [QaI];rw [Nat.add_zero] at o;by_cases g:(j:Int)=3
   ·rw [if_pos g,if_neg (by omega)];omega
   rw [if_neg g];split<;>omega
  have l:=(QgM (Qf0 h) (λk=>1000*(Qan (JE T L f) (T id).kids s (Qe L s n) (QE T L (T id).kids s (Qe L s n)) k).length) rfl λk a=>by
   obtain ⟨b,m⟩:=d k a;rw [Qan,length_append];split
   ·simp
   have:=(ih ((T id).kids.getD ((QE T L (T id).kids s (Qe L s n)).getD k 0).toNat 0) _ _ (by omega) b).2;omega).2 _ X0
  rw [JE,length_cons];omega
theorem Qkw (d:∀ i,(T i).kids.length<=800/\(T i).ats.length<=5) (f:Nat) (id:Int) (m:n<=800) (c:Jd L s n) (a:k<(Qe L s n).length):(∀ j:Nat,Qbw (j:Int) (QaI T L f) L (T id).kids s (Qe L s n) (QE T L (T id).kids s (Qe L s n)) k<=1000*(((Qe L s n).getD k (0,0)).1-1))/\(Qan (JE T L f) (T id).kids s (Qe L s n) (QE T L (T id).kids s (Qe L s n)) k).length<=((Qe L s n).getD k (0,0)).1-1:=by
 have g:∀ k,k<(Qe L s n).length->Jd L (s+((Qe L s n).getD k (0,0)).1) (((Qe L s n).getD k (0,0)).2-((Qe L s n).getD k (0,0)).1)/\((Qe L s n).getD k (0,0)).2<=n:=λk a=>⟨(c.part (QcZ a)).1,(c.part (QcZ a)).2.1.2.2⟩;refine ⟨λj=>?_,?_⟩
 ·exact (QgM (Qf0 c) (Qbw (j:Int) (QaI T L f) L (T id).kids s (Qe L s n) (QE T L (T id).kids s (Qe L s n))) rfl λk a=>by
   obtain ⟨b,h⟩:=g k a;rw [Qbw];split
   ·have:=QmC b j;omega
   have:=(QfA d (L:=L) f ((T id).kids.getD ((QE T L (T id).kids s (Qe L s n)).getD k 0).toNat 0) _ _ (by omega) b).1 j;omega).1 k a
 have l:=(QgM (Qf0 c) (λk=>1000*(Qan (JE T L f) (T id).kids s (Qe L s n) (QE T L (T id).kids s (Qe L s n)) k).length) rfl λk a=>by
  obtain ⟨b,h⟩:=g k a;rw [Qan,length_append];split
  ·simp
  have:=(QfA d (L:=L) f ((T id).kids.getD ((QE T L (T id).kids s (Qe L s n)).getD k 0).toNat 0) _ _ (by omega) b).2;omega).1 k a
 omega
def Qgr (l:World) (p:Nat) (R:List RN) (b m N c:Nat) (L:Nat->Qd) (a f d s n:Nat):Prop :=
  ∀ (K:Nat->Nat) (i A:List Int) (g h:Value) (w:World),Xb l w->Zv w a K i A g h->(∀ x,ZY a g h x->l.heap.size<=x)->i.length+n<=100000->A.length+n<=100000->(∀ j,K j+1000*n<=1000000) ->
    Xl 60 #[Xp a,Xp p,Xi (d:Int),.slice (some (Xa b m)) N c,Xi (s:Int)] w λe w'=>e=.returned (.tuple #[])/\∃ k av',Zv w' a (λj=>K j+QaI (Qc R) L f (Qg R d) s n (j:Int)) (i++(JE (Qc R) L f (Qg R d) s n).map (·.1)) (A++(JE (Qc R) L f (Qg R d) s n).map λx=>(x.2:Int)) k av'/\Q7 a g h w k av' w'
def Je (R:List RN) (L:Nat->Qd) (f:Nat) (id:Int) (s n:Nat) (K:Nat->Nat) (k:Nat):Nat->Nat:=λj=>K j+Qbw (j:Int) (QaI (Qc R) L f) L (Qc R id).kids s (Qe L s n) (QE (Qc R) L (Qc R id).kids s (Qe L s n)) k
def Qak (R:List RN) (L:Nat->Qd) (f:Nat) (id:Int) (s n:Nat) (a:List Int) (k:Nat):List Int:=a++(Qan (JE (Qc R) L f) (Qc R id).kids s (Qe L s n) (QE (Qc R) L (Qc R id).kids s (Qe L s n)) k).map (·.1)
def Qal (R:List RN) (L:Nat->Qd) (f:Nat) (id:Int) (s n:Nat) (a:List Int) (k:Nat):List Int:=a++(Qan (JE (Qc R) L f) (Qc R id).kids s (Qe L s n) (QE (Qc R) L (Qc R id).kids s (Qe L s n)) k).map λx=>(x.2:Int)
theorem QqE {g:World} (v:∀ i,(Qc R i).kids.length<=800/\(Qc R i).ats.length<=5) (h:Qac g b o N L) (O:N<=800) (a:Jd L s n) (l:QcX L N s n) (f:Nat) (id:Int) (d:k<(Qe L s n).length) (m:(QE (Qc R) L (Qc R id).kids s (Qe L s n)).getD k 0=-1) {A:List Int} (y:Xb g w) (p:Zv w cb (Je R L f id s n K k) (Qak R L f id s n I k) (Qal R L f id s n A k) iv av) (z:∀ x,ZY cb iv av x->g.heap.size<=x) (B:∀ j,K j+1000*(n-1)<=1000000) : Xl 75 #[Xp cb,.slice (some (Xa b o)) N c,Xi ((s+((Qe L s n).getD k (0,0)).1:Nat):Int)] w λe w'=>e=.returned (.tuple #[])/\Zv w' cb (Je R L f id s n K (k+1)) (Qak R L f id s n I (k+1)) (Qal R L f id s n A (k+1)) iv av/\Q7 cb iv av w iv av w':=by
 obtain ⟨q,⟨P,S,T⟩,_⟩:=a.part (QcZ d);have t:=QcX.part a l (QcZ d);have H:=l.1;have u:=(Qkw v f id (by omega) a d).1;have J:=z cb (.inl rfl);have M:=h.lt;refine (Qwn cb (Je R L f id s n K k) iv av b o N c L (s+((Qe L s n).getD k (0,0)).1) (((Qe L s n).getD k (0,0)).2-((Qe L s n).getD k (0,0)).1) w (by omega) (h.below y) (by omega) p.cnt (λj=>?_) (by omega) (by omega) q.deep t.2 (λi C=>(QaW (q.node i C)).1)).mono ?_
 ·have U:=B j;have V:=u j;unfold Je;omega
 rintro e w' ⟨D,E,r⟩;have F:Je R L f id s n K (k+1)=λj=>Je R L f id s n K k j+JW L (s+((Qe L s n).getD k (0,0)).1) j (((Qe L s n).getD k (0,0)).2-((Qe L s n).getD k (0,0)).1):=funext λj=>by unfold Je;rw [Qbw,if_pos m,QhK,Nat.add_assoc]
 have G:Qan (JE (Qc R) L f) (Qc R id).kids s (Qe L s n) (QE (Qc R) L (Qc R id).kids s (Qe L s n)) (k+1)=Qan (JE (Qc R) L f) (Qc R id).kids s (Qe L s n) (QE (Qc R) L (Qc R id).kids s (Qe L s n)) k:=by rw [Qan,if_pos m,append_nil]
 rw [F];unfold Qak Qal;rw [G];exact ⟨D,p.count E r,.one r⟩
theorem Qod {g:World} (t:∀ i,(Qc R i).kids.length<=800/\(Qc R i).ats.length<=5) (O:N<=800) (h:Jd L s n) (u:QcX L N s n) (f:Nat) (id:Int) (l:k<(Qe L s n).length) (m:(QE (Qc R) L (Qc R id).kids s (Qe L s n)).getD k 0≠-1) (q:Qg R a=(Qc R id).kids.getD ((QE (Qc R) L (Qc R id).kids s (Qe L s n)).getD k 0).toNat 0) (v:Qgr g p R b o N c L cb f a (s+((Qe L s n).getD k (0,0)).1) (((Qe L s n).getD k (0,0)).2-((Qe L s n).getD k (0,0)).1)) {A:List Int} (y:Xb g w) (z:Zv w cb (Je R L f id s n K k) (Qak R L f id s n I k) (Qal R L f id s n A k) iv av) (B:∀ x,ZY cb iv av x->g.heap.size<=x) (P:I.length+(n-1)<=100000) (S:A.length+(n-1)<=100000) (C:∀ j,K j+1000*(n-1)<=1000000) : Xl 60 #[Xp cb,Xp p,Xi (a:Int),.slice (some (Xa b o)) N c,Xi ((s+((Qe L s n).getD k (0,0)).1:Nat):Int)] w λe w'=>e=.returned (.tuple #[])/\∃ d av',Zv w' cb (Je R L f id s n K (k+1)) (Qak R L f id s n I (k+1)) (Qal R L f id s n A (k+1)) d av'/\Q7 cb iv av w d av' w':=by
 obtain ⟨T,⟨U,V,W⟩,_⟩:=h.part (QcZ l);have J:=u.1;obtain ⟨r,M⟩:=Qkw t f id (by omega) h l;refine (v _ _ _ iv av w y z B ?_ ?_ (λj=>?_)).mono ?_
 ·unfold Qak;rw [length_append,length_map];omega
 ·unfold Qal;rw [length_append,length_map];omega
 ·have X:=C j;have Y:=r j;unfold Je;omega
 rintro e w' ⟨D,d,av',E,F⟩;refine ⟨D,d,av',?_,F⟩;have G:Je R L f id s n K (k+1)=λj=>Je R L f id s n K k j+QaI (Qc R) L f (Qg R a) (s+((Qe L s n).getD k (0,0)).1) (((Qe L s n).getD k (0,0)).2-((Qe L s n).getD k (0,0)).1) (j:Int):=funext λj=>by unfold Je;rw [Qbw,if_neg m,q,Nat.add_assoc]
 have H:Qan (JE (Qc R) L f) (Qc R id).kids s (Qe L s n) (QE (Qc R) L (Qc R id).kids s (Qe L s n)) (k+1)=Qan (JE (Qc R) L f) (Qc R id).kids s (Qe L s n) (QE (Qc R) L (Qc R id).kids s (Qe L s n)) k++JE (Qc R) L f (Qg R a) (s+((Qe L s n).getD k (0,0)).1) (((Qe L s n).getD k (0,0)).2-((Qe L s n).getD k (0,0)).1):=by rw [Qan,if_neg m,q]
 rw [G];unfold Qak Qal at *;rw [H,map_append,map_append,<- append_assoc,<- append_assoc];exact E
theorem QnJ (R:List RN) (L:Nat->Qd) (f:Nat) (id:Int) (s n:Nat) (K:Nat->Nat) (j:Nat):K j+QaI (Qc R) L (f+1) id s n (j:Int)=Je R L f id s n (λj=>K j+Qa4 (Qc R id) (L s) (j:Int)) (Qe L s n).length j+(if j=3 then (Qc R id).kids.length-Qaf (QE (Qc R) L (Qc R id).kids s (Qe L s n)) (Qe L s n).length else 0)+(if j=2 then Qaf (QE (Qc R) L (Qc R id).kids s (Qe L s n)) (Qe L s n).length-(Q4 (QE (Qc R) L (Qc R id).kids s (Qe L s n))).length else 0):=by
 have a:((j:Int)=2)=(j=2):=by apply propext;omega
 have b:((j:Int)=3)=(j=3):=by apply propext;omega
 rw [QaI];unfold Je;simp only [a,b,Nat.add_assoc]
theorem Qtb (R:List RN) (L:Nat->Qd) (f:Nat) (id:Int) (s n:Nat) (a:List Int):a++(JE (Qc R) L (f+1) id s n).map (·.1)=Qak R L f id s n (a++[id]) (Qe L s n).length/\a++((JE (Qc R) L (f+1) id s n).map λx=>(x.2:Int))=Qal R L f id s n (a++[(s:Int)]) (Qe L s n).length:=by rw [JE];unfold Qak Qal;simp only [map_cons,append_assoc,singleton_append,and_self]
theorem QmZ (T:Int->NI) (L:Nat->Qd) (ks:List Int) (s:Nat) (ps:List (Nat × Nat)):(QE T L ks s ps).length=ps.length/\(∀ k,k<ps.length->(QE T L ks s ps).getD k 0=-1 \/ ∃ q:Nat,(QE T L ks s ps).getD k 0=(q:Int)/\q<ks.length)/\Qaf (QE T L ks s ps) ps.length<=ks.length/\((QE T L ks s ps).filter QL).length=Qaf (QE T L ks s ps) ps.length:=by
 have b:(QE T L ks s ps).length=ps.length:=QeT ..;have a:∀ v,v ∈ QE T L ks s ps->v=-1 \/ ∃ p:Nat,v=(p:Int)/\p<ks.length:=λv g=>by
  rcases QfQ g with e|⟨h,i⟩
  ·exact .inl e
  exact .inr ⟨v.toNat,by omega,by omega⟩
 have f:=QkX a (QmX T L ks s ps);have c:=Qm5 (QE T L ks s ps);rw [b] at f c;refine ⟨b,λk j=>?_,by omega,c.symm⟩;have d:k<(QE T L ks s ps).length:=by omega
 refine a _ ?_;rw [Xg d];exact Xa0 d
theorem Qo1 (b:k<pr.length):(pr.take (k+1)).filter QL=(pr.take k).filter QL++if pr.getD k 0=-1 then [] else [pr.getD k 0]:=by
 have e:pr.getD k 0=pr[k]:=by rw [Xg b];rfl
 rw [take_succ_eq_append_getElem b,filter_append,e];by_cases a:pr[k]=-1
 ·rw [if_pos a,a];rfl
 rw [if_neg a,filter_cons_of_pos (by unfold QL Qab;simpa using a)];rfl
theorem Qj2 {c:Value} (a:w.ownsRow B e size v n xs) (d:∀ x,v.ownBlock=some x->¬ ZY cb iv av x) (f:Q7 cb iv av w c av' w'):w'.ownsRow B e size v n xs/\∀ x,v.ownBlock=some x->¬ ZY cb c av' x := ⟨Q8 a λb e=>(f.keeps (a.lt b e).2 (d b e)).1,λx e=>(f.keeps (a.lt x e).2 (d x e)).2.1⟩
theorem QpH {c d h:Value} (a:Q7 cb iv av w0 c d w) (b:Xb w w1) (i:ZV w1 w2 h v') (l:∀ x,h.ownBlock=some x->w0.heap.size<=x):Q7 cb iv av w0 c d w2:=by have g:=i.by;refine ⟨⟨g.os.trans (b.os.trans a.touch.os),g.tape.trans (b.tape.trans a.touch.tape),g.output.trans (b.output.trans a.touch.output),Xb6 a.touch.size (Xb6 b.size g.size),λk j m=>?_⟩,a.own⟩;have f:k<w.heap.size:=Xb4 j a.touch.size;rw [QeJ i (Nat.lt_of_lt_of_le f b.size) λe=>by have:=l k e;omega,b.block k f];exact a.touch.block k j m
theorem QqR {A:List Int} {f:Value} (j:Zv w cb K I A iv av) (d:Xb w w1) (g:ZV w1 w2 f v') (h:∀ x,f.ownBlock=some x->¬ ZY cb iv av x):Zv w2 cb K I A iv av/\∀ x,v'.ownBlock=some x->¬ ZY cb iv av x:=by
 obtain ⟨k,l,m⟩:=j.lt;have c:∀ b,ZY cb iv av b->b<w.heap.size:=λb e=>by
  rcases e with e|e|e
  ·rw [e];exact k
  ·exact l b e
  exact m b e
 refine ⟨j.keep λb e=>?_,λx e i=>?_⟩
 ·rw [QeJ g (Nat.lt_of_lt_of_le (c b e) d.size) λa=>h b a e];exact d.block b (c b e)
 rcases g.at with a|a
 ·exact h x (a.symm.trans e) i
 have n:=c x i;have o:=d.size;rw [a] at e;cases e;omega
theorem Zv.put {A:List Int} (d:Zv w cb K I A iv av) (f:j<7) (x:Nat):Zv (w.setCell (Xa cb j) (Xi (x:Int))) cb (λi=>if i=j then x else K i) I A iv av/\Qi (λb=>b=cb) w (w.setCell (Xa cb j) (Xi (x:Int))):=by
 have c:Qi (λb=>b=cb) w (w.setCell (Xa cb j) (Xi (x:Int))):=(Qi.of_below (S:=λb=>b=cb) (Below.refl _ w)).set (a:=(Xa cb j)) (.inl rfl) _;refine ⟨d.count ((d.cnt.set j _).congr λi _=>?_) c,c⟩;unfold Qbc;by_cases e:i=j
 ·subst e;simp only [if_pos,f]
 simp only [if_neg e]
theorem QrV (d:w.ownsRow B 3 1 (.slice ao m c) m (Qs (pr.filter QL))) (h:(pr.filter QL).length=m) (q:m<=800) (f:pr.filter QL=[]->Value.slice ao m c=Xv):Xl 76 #[.slice ao m c] w λe w'=>e=.returned (Xi ((Q4 pr).length:Nat))/\Xb w w':=by
 have a:(Q4 pr).length=QaH (λj=>(pr.filter QL).getD j 0) m:=by rw [Quj];unfold Q4;rw [h]
 by_cases b:0<m
 ·obtain ⟨g,_,e,_,_,k⟩:=Qb0 d b;subst e;rw [a];refine QuP g m c _ w b (by omega) k λi l=>?_;obtain ⟨r,n,e',o,_⟩:=Qb0 d l;cases e';rw [o,Xg n];rfl
 have e:=f (length_eq_zero_iff.1 (by omega));rw [e];have p:QaH (λj=>(pr.filter QL).getD j 0) m=0:=by have:=Qjk (λj=>(pr.filter QL).getD j 0) m;omega
 rw [a,p];exact QtE w
theorem Qpi {K5:Nat->Nat} (c:QE (Qc R) L (Qc R id).kids s (Qe L s n)=pr) (d:Je R L f id s n (λj=>K j+Qa4 (Qc R id) (L s) (j:Int)) (Qe L s n).length=K5) (g:(pr.filter QL).length=m) (h:(Qc R id).kids.length=q):(λi=>if i=2 then K5 2+(m-(Q4 pr).length) else (λi=>if i=3 then K5 3+(q-m) else K5 i) i)=λj=>K j+QaI (Qc R) L (f+1) id s n (j:Int):=funext λj=>by
 have k:=(QmZ (Qc R) L (Qc R id).kids s (Qe L s n)).2.2.2;rw [QnJ,d,<- k,c,g,h];by_cases a:j=2
 ·subst a;rfl
 by_cases b:j=3
 ·subst b;rfl
 simp only [if_neg a,if_neg b,Nat.add_zero]
end Go.Proofs.YtobgcaemnpkbmaaGreat
