import Derived.Test.YtobgcaemnpkbmaaGreatY05
import Derived.StillTailTactics
namespace Go.Proofs.YtobgcaemnpkbmaaGreat
set_option maxRecDepth 100000
set_option maxHeartbeats 8000000
open Go.RowKit List
variable {last:Int} {R:List RN} {j p:Nat} {S:Nat->Prop} {ao:Option Addr} {w w3 wr:World}
attribute [local go_sem ↓] Go.wp_at_zero Go.wp_at_succ
theorem QtR (x:Int):IntKind.i64.wrap x=wrap64 x:=by rw [IntKind.wrap_i64];unfold wrap64;rfl
theorem Qe0 {x:Int} (a:-9223372036854775808<=x) (b:x<=9223372036854775807):IntKind.i64.wrap x=x:=(QtR x).trans (IntWalk.wrap64_in x ⟨a,b⟩)
def Zc (m:Qd):List (ByteArray × ByteArray):=(List.range m.an).map λj=>(m.nm j,m.vl j)
theorem Qba (m:Qd):(Zc m).length=m.an:=by unfold Zc;simp
theorem Qi4 {m:Qd} (a:j<m.an):QP (Zc m) j=m.nm j:=by unfold QP Zc;simp [a]
theorem QhB {m:Qd} (a:j<m.an):Q6 (Zc m) j=m.vl j:=by unfold Q6 Zc;simp [a]
theorem QlO {m:Qd} (b:Zn w m.ao m.an m.nm m.vl):Zn w m.ao m.an (QP (Zc m)) (Q6 (Zc m)):=by intro j a;rw [Qi4 a,QhB a];exact b j a
def Qam (L:Nat->Qd) (i:Nat):Int:=if i=0 then 0 else Q1 L i i+1
def QhH (L:Nat->Qd) (i:Nat) (n:RN):Prop:=n.id=(i:Int)+1/\n.par=Qam L i/\n.tag=(L i).t/\n.key=(L i).k/\n.text=(L i).x/\n.ats=Zc (L i)
theorem Qq.pushed {f:World} {h d q:Nat} {m:RN} {D:Obj} (c:Qq S wr p R last (.slice ao R.length h)) (E:∀ b,wr.heap.size<=b->S b) (r:Xb wr f) (z:(f.alloc D).drew.grownBy w3 (Value.ownBlock (.slice ao R.length h))) (H:w3.ownsRow 0 91 6 (Xe d (R.length+1) q) (R.length+1) (ZS R++m.cells)) (k:Value.ownBlock (.slice ao R.length h)=some d \/ d=f.heap.size+1) (u:m.Ok S f) (s:∀ a,m.ao=some a->wr.heap.size<=a.block) (F:R.length+1<=800) : Qq S (w3.setCell (Xa p 0) (Xe d (R.length+1) q)) p (R++[m]) last (Xe d (R.length+1) q):=by
 have I:=c.lt;have L:=r.size;have K:f.heap.size+1<=w3.heap.size:=by have:=z.size;simpa using this
 have np:some p≠Value.ownBlock (.slice ao R.length h):=λe=>(c.srow p e.symm).2 rfl;have B:d≠p:=by
  rcases k with e|e
  ·exact (c.srow d e).2
  omega
 have t:∀ b,b<f.heap.size->some b≠Value.ownBlock (.slice ao R.length h)->w3.heap[b]?=f.heap[b]?:=λb C G => (z.block b (by simp;omega) G).trans (Xc1 f D b C);have i:=(t p (by omega) np).trans (r.block p I);have A:∀ b,wr.heap.size<=b->some b≠Value.ownBlock (.slice ao R.length h):=λb C e=>by have:=(c.row.lt b e.symm).2;omega
 refine c.build (λb _ c=>c) (by rw [QJ];omega) ?_ ?_ ?_ ?_ ?_ ?_ ?_ ?_ ?_ ?_
 ·have:=(Xk p 0 i).trans c.c0;simp [go_sem,this]
 ·have:=(Xk p 1 i).trans c.c1;simp [go_sem,this]
 ·have:=(Xk p 2 i).trans c.c2;simp [go_sem,this]
 ·have:=(Xm p 0 i).trans c.f0;simp [go_sem,this]
 ·have:=(Xm p 2 i).trans c.f2;simp [go_sem,this]
 ·rw [length_append,Qht];exact Qbl H (.inr (λe=>B (Xb5 e)))
 ·intro J e;have e':d=J:=Xb5 e;subst e';refine ⟨?_,B⟩;rcases k with e|e
  ·exact (c.srow d e).1
  exact E d (by omega)
 ·rw [length_append];exact F
 ·intro n g;rcases Xa4.1 g with g|g
  ·exact .inl g
  have:=Xa2.1 g;subst this;refine .inr ⟨u.moved (λ_ _ c=>c) (by rw [QJ];omega) (λa e=>?_),λa e=>⟨?_,λv=>?_⟩⟩
  ·have l:=(u.own a e).2;have o:=s a e;exact (Below.heap_setCell w3 (Xa p 0) _ a.block (by show a.block≠p;omega)).trans (t a.block l (A _ o))
  ·have o:=s a e;omega
  have l:=(u.own a e).2;have o:=s a e;have x:a.block=d:=Xb5 v;rcases k with j|j
  ·exact A a.block o (by rw [x];exact j.symm)
  omega
 intro n g a e;have y:=c.apart n g a e;have l:=((c.node n g).own a e).2;refine ⟨((Below.heap_setCell w3 (Xa p 0) _ a.block y.1).trans (t a.block (by omega) y.2)).trans (r.block a.block l),λv=>?_⟩;have x:a.block=d:=Xb5 v;rcases k with j|j
 ·exact y.2 (by rw [x];exact j.symm)
 omega
theorem QoG (b E n c:Nat) L w (cg:n<=400) (ba:Qac w b E n L) (bs:∀ i,i<n->0<i->1<=(L i).d/\(L i).d<=11) (bf:∀ i,i<n->0<i->0<=Q1 L i i/\Q1 L i i<=400) (bt:∀ i,i<n->(L i).an<=5) (bb:∀ i,i<n->(L i).ao=none->(L i).an=0/\(L i).ac=0) : Xl 15 #[.slice (some (Xa b E)) n c] w λe w'=>e=.returned (Xp w.heap.size)/\Xb w w'/\∃ R v,Qq (λb=>w.heap.size<=b) w' w.heap.size R n v/\R.length=n/\∀ i,(B:i<R.length)->QhH L i R[i]:=by
 obtain ⟨bu,B,bg,bh,bi⟩:=info_parts QfF;obtain ⟨bv,a2,bj,bk,bl⟩:=info_parts Qcr;have bA:=Qa ba;have bP:=Qa bs;have bQ:=Qa bf;have bR:=Qa bt;have bB:=Qa bb;have P:=ba.lt;clear ba bs bf bt bb;go_enter Tryz.func15,Tryz.ntmps15;go_wp2_with fail;generalize aq:w.alloc (.cells #[Xv,Xi 1,Xi n] 89)=w1;have bE:=Xt aq;have bm:=X1 aq;have bF:Hid (Qq (λb=>w.heap.size<=b) w1 w.heap.size [] n Xv):=by refine Qa ⟨X0,?_,?_,?_,?_,?_,Xc0 _ _ _ _,λg e=>(nomatch e),(by simp),λm b0=>(nomatch b0),λm b0=>(nomatch b0)⟩;all_goals rw [<- aq];simp [go_sem]
 have cb:=Qa bm;clear aq bm;go_loopw [4,5] (λi _ wr=>∃ (k:Nat) (R:List RN) (v:Value),k<=n/\i=Xi k/\Hid (R.length=k/\Qq (λb=>w.heap.size<=b) wr w.heap.size R n v/\∀ i,(B:i<R.length)->QhH L i R[i])/\Xb w wr) (λi _ _=>n-(intOf i).toNat);·exact ⟨0,[],_,X3,rfl,Qa ⟨rfl,bF.out,λi B=>absurd B (Xb7 _)⟩,bE⟩
 case round =>
  obtain ⟨k,R,v,ch,rfl,l,F⟩:=hrel;obtain ⟨ao,z,rfl⟩:=l.out.2.1.nil;by_cases a1:k<n
  ·have A:=bA.out.node k a1;have bw:=(Xh F b (E+k*5+1) P).trans A.c1;have bS:=(Xh F b (E+k*5+2) P).trans A.c2;have bx:=(Xh F b (E+k*5+3) P).trans A.c3;have bT:=(Xh F b (E+k*5+4) P).trans A.c4;have aO:=Qa (QlO (A.ok.at'.below F));have ar:=Qa A.ok;have bn:=bR.out k a1;have bo:=Qa (bB.out k a1);have ci:(0:Int)<=(k:Int):=by omega
   have cj:(k:Int)<(n:Int):=by omega
   have bU:b<wr.heap.size:=Xb4 P F.size;have G:=F.size;have au:w.heap.size<wr.heap.size:=l.out.2.1.lt;have bV:=World.new_ne wr _ bw;have aK:=Qa F;have cc:IntKind.i64.wrap ((k:Int)+1)=(k:Int)+1:=Qe0 (by omega) (by omega);clear F A;go_wp2;go_region_held3 (λw'=>w'.cell? (Xa b (E+k*5+1))=some (.string (L k).t)/\w'.cell? (Xa b (E+k*5+2))=some (Xi (L k).k)/\w'.cell? (Xa b (E+k*5+4))=some (.string (L k).x)) (go_keep) (fail);generalize H:(wr.alloc (.cells #[Xi ((k:Int)+1),Xi 0,.string (L k).t,Xi (L k).k,Xv,.string (L k).x] 91)).drew=w3;have av:Xb wr w3:=by rw [<- H];exact Xd.drew
   have bz:w3.heap.size=wr.heap.size+1:=by rw [<- H];simp
   have aC:w3.cell? (Xa wr.heap.size 0)=some (Xi ((k:Int)+1)):=by rw [<- H];simp [go_sem]
   have aD:w3.cell? (Xa wr.heap.size 1)=some (Xi 0):=by rw [<- H];simp [go_sem]
   have aE:w3.cell? (Xa wr.heap.size 2)=some (.string (L k).t):=by rw [<- H];simp [go_sem]
   have aF:w3.cell? (Xa wr.heap.size 3)=some (Xi (L k).k):=by rw [<- H];simp [go_sem]
   have aG:w3.cell? (Xa wr.heap.size 4)=some Xv:=by rw [<- H];simp [go_sem]
   have aH:w3.cell? (Xa wr.heap.size 5)=some (.string (L k).x):=by rw [<- H];simp [go_sem]
   have b1:∀ r,w3.frozen? (Xa wr.heap.size r)=false:=λr=>by rw [<- H];simp [go_sem]
   have aI:=(Xh av b (E+k*5+3) bU).trans bx;have aP:=Qa av;have bp:=Qa (aO.out.below av);have ck:=Qa bz;have y:wr.heap.size<w3.heap.size:=by omega
   have aw:=b1 1;have ax:=b1 4;clear H av bz bw bS bx bT bV b1;go_wp2;go_still_tail 7,(by kernel_rfl);change wpList _ _ _ _ _ w3.drew;have bc:Hid (w3.drew.ownsRow wr.heap.size 72 2 Xv 0 []):=Qa (Xc0 _ _ _ _);have bq:=Qba (L k);have ay:=Qa bq;clear bq;by_cases az:k=0
   ·have bG:decide ((0:Int)<(k:Int))=false:=by simp;omega
    have aQ:=Qa az;have aR:¬ (0:Int)<(k:Int):=by omega
    clear az;go_wp2_with (first|(at_builtin;refine Zp _ rfl (.tmp 35) (.tmp 40) 31 rfl wr.heap.size 72 bv _ 2 32 Tryz.underlying31 a2 bj bk bl rfl Xv 0 [] rfl (Qb bc) (L k).ao (L k).an (L k).ac (QS (Zc (L k))) rfl (Qb bo) (by rw [Qei,(Qb ay)]) (QhQ (Qb ay).symm ((Qb bp).below X4.drew)) (QeC _) (by omega) (by omega) (by show wr.heap.size<=w3.heap.size;omega) ?_;intro bW aJ a4 a5 _;have J:=Qb a4;rw [Nat.zero_add,nil_append] at J;clear a4;obtain ⟨f,q,rfl⟩:=Qy J;have a6:=Qa J;clear J;have o:=(Below.refl w3.heap.size w3).drew.trans (Qh9 (Qb a5));have bX:=o.size;have v0:=(Xh o wr.heap.size 0 y).trans aC;have ag:=(Xh o wr.heap.size 1 y).trans aD;have ah:=(Xh o wr.heap.size 2 y).trans aE;have ai:=(Xh o wr.heap.size 3 y).trans aF;have v4:=(Xh o wr.heap.size 4 y).trans aG;have aj:=(Xh o wr.heap.size 5 y).trans aH;have aA:=(Xj o wr.heap.size 1 y).trans aw;have aS:=(Xj o wr.heap.size 4 y).trans ax;have aB:=Qa o;clear o aC aD aE aF aG aH aw ax aI));generalize u:aJ.setCell (Xa wr.heap.size 4) (.slice f (L k).an q)=a;have a7:a.heap.size=aJ.heap.size:=by rw [<- u];exact QJ _ _ _
    have K:Hid (Xb wr a):=by rw [<- u];exact Qa ((aP.out.trans (aB.out.mono (by omega))).setCell X0 _)
    have U:a.cell? (Xa wr.heap.size 0)=some (Xi ((k:Int)+1)):=by rw [<- u];simp [go_sem,v0]
    have V:a.cell? (Xa wr.heap.size 1)=some (Xi 0):=by rw [<- u];simp [go_sem,ag]
    have W:a.cell? (Xa wr.heap.size 2)=some (.string (L k).t):=by rw [<- u];simp [go_sem,ah]
    have X:a.cell? (Xa wr.heap.size 3)=some (Xi (L k).k):=by rw [<- u];simp [go_sem,ai]
    have Y:a.cell? (Xa wr.heap.size 4)=some (.slice f (L k).an q):=by rw [<- u];simp [go_sem,v4]
    have a0:a.cell? (Xa wr.heap.size 5)=some (.string (L k).x):=by rw [<- u];simp [go_sem,aj]
    have aT:=Qa u;have bH:=Qa a7;have bI:=Qa a6.out;have b2:wr.heap.size<a.heap.size:=by omega
    have ak:w.heap.size<a.heap.size:=by omega
    have M:Xb wr a:=K.out;have al:Xc a w.heap.size 0 (.slice ao R.length z):=(Xh M w.heap.size 0 au).trans l.out.2.1.c0;have a8:Xf a w.heap.size 0:=(Xj M w.heap.size 0 au).trans l.out.2.1.f0;have aL:=Qa (QX l.out.2.1.row M);have np:some w.heap.size≠Value.ownBlock (.slice ao R.length z):=λe=>(l.out.2.1.srow w.heap.size e.symm).2 rfl;have b3:some wr.heap.size≠Value.ownBlock (.slice ao R.length z):=λe=>by have:=(l.out.2.1.row.lt wr.heap.size e.symm).2;omega
    have bJ:=l.out.2.1.few;have a9:=l.out.1;have N:=Qa a9;clear M a9;have O:Hid (a.ownsRow wr.heap.size 72 2 (.slice f (L k).an q) (L k).an (QS (Zc (L k)))):=by
     rw [<- aT.out];refine Qa (Qbl a6.out ?_);rcases a5.out.at with e|e
     ·exact .inl e
     right;rw [e];intro b4;have aI:w3.heap.size=wr.heap.size:=Xb5 b4;omega
    have aM:Hid (0=Qam L k):=Qa (by unfold Qam;rw [if_pos aQ.out]);clear u a7 v0 ag ah ai v4 aj aA aS;have aU:(λw':World=>Xf w' w.heap.size 0/\Xc w' w.heap.size 0 (.slice ao R.length z)/\Xc w' wr.heap.size 0 (Xi ((k:Int)+1))/\Xc w' wr.heap.size 1 (Xi 0)/\Xc w' wr.heap.size 2 (.string (L k).t)/\Xc w' wr.heap.size 3 (Xi (L k).k)/\Xc w' wr.heap.size 4 (.slice f (L k).an q)/\Xc w' wr.heap.size 5 (.string (L k).x)) a.drew:=⟨a8,al,U,V,W,X,Y,a0⟩;refine ZU (S:=(λw':World=>w'.frozen? (Xa w.heap.size 0)=false/\w'.cell? (Xa w.heap.size 0)=some (.slice ao R.length z)/\w'.cell? (Xa wr.heap.size 0)=some (Xi ((k:Int)+1))/\w'.cell? (Xa wr.heap.size 1)=some (Xi 0)/\w'.cell? (Xa wr.heap.size 2)=some (.string (L k).t)/\w'.cell? (Xa wr.heap.size 3)=some (Xi (L k).k)/\w'.cell? (Xa wr.heap.size 4)=some (.slice f (L k).an q)/\w'.cell? (Xa wr.heap.size 5)=some (.string (L k).x))) (by kernel_rfl) ?_;iterate 6
     apply Qbz ?_ aU ?_;rotate_left
     ·(intro w' hSw;(try dsimp only at hSw);simp only [Xq];go_simp;try (with_reducible rfl))
     simp only [Xq,Xr]
    refine Qbe 6 ?_;simp only [Xq];go_simp;refine Qbe 7 ?_;simp only [Xq];refine wp_append_lies _ _ _ _ (by rfl) 0 91 bu _ 6 80 Tryz.underlying87 B bg bh bi rfl (by omega) (.slice ao R.length z) R.length (ZS R) (by rfl) ((World.ownsRow.alloc (Qb aL) _).drew) (Xa a.heap.size 0) 1 1 [Xi ((k:Int)+1),Xi 0,.string (L k).t,Xi (L k).k,.slice f (L k).an q,.string (L k).x] (by rfl) (by rfl) (World.news_of_block (cs:=#[Xi ((k:Int)+1),Xi 0,.string (L k).t,Xi (L k).k,.slice f (L k).an q,.string (L k).x]) (t:=91) (fr:=(0,0)) (Xc5 a _)) (by simp [Value.oneCell']) (by omega) (by unfold maxLen;omega) (by omega) X3 (a.heap.size+1) (by simp) ?_;intro b5 aN T a3 C aV bC;have b6:T.frozen? (Xa w.heap.size 0)=false:=(C.frozen_far (Xa w.heap.size 0) (by simp;omega) np).trans ((Xd1 (w:=a) (Xc1 _ _ _ ak)).trans a8);have b7:T.cell? (Xa w.heap.size 0)=some (.slice ao R.length z):=(C.cell_far (Xa w.heap.size 0) (by simp;omega) np).trans ((Xb3 (w:=a) (Xc1 _ _ _ ak)).trans al);have h:∀ j,T.cell? (Xa wr.heap.size j)=a.cell? (Xa wr.heap.size j):=λj=>(C.cell_far (Xa wr.heap.size j) (by simp;omega) b3).trans (Xb3 (w:=a) (Xc1 _ _ _ b2));refine ⟨.inr ⟨b6,b7,(h 0).trans U,(h 1).trans V,(h 2).trans W,(h 3).trans X,(h 4).trans Y,(h 5).trans a0⟩,?_⟩;have bY:=(h 0).trans U;have bZ:=(h 1).trans V;have c5:=(h 2).trans W;have c6:=(h 3).trans X;have c7:=(h 4).trans Y;have c8:=(h 5).trans a0;have aW:=Qa a3;have aa:=Qa C;clear a3 C h;simp only [Xr];refine Qbe 8 ?_;simp only [Xq];go_simp;refine Qbe 9 ?_;simp only [Xq];go_simp;refine Qbe 10 ?_;simp only [Xq];go_simp;refine ⟨by kernel_rfl,?_⟩;refine ZP (by kernel_rfl) ?_ _;go_wp2_with fail;have ab:RN.Ok (λb=>w.heap.size<=b) a { id:=(k:Int)+1,par:=0,tag:=(L k).t,key:=(L k).k,text:=(L k).x,ats:=Zc (L k),ao:=f,an:=(L k).an,ac:=q }:=by
     have ap:∀ s,f=some s->wr.heap.size<=s.block/\s.block<a.heap.size:=λs e=>by subst e;exact World.ownsRow.lt O.out s.block rfl
     refine ⟨(Qba _).symm,bn,λe=>?_,ar.out.t,ar.out.x,QfW O.out (Qba _).symm (Qey (Qba _).symm aO.out),λs e=>⟨Xb6 G (ap s e).1,(ap s e).2⟩⟩;have e:f=none:=e;subst e;rcases O.out.2 with ⟨D,b8⟩|⟨c9,bD,bK,D,_⟩
     ·simp only [Value.slice.injEq] at D;exact ⟨b8,D.2.2⟩
     simp only [Value.slice.injEq] at D;cases D.1
    have ad:=l.out.2.1.pushed (m:={ id:=(k:Int)+1,par:=0,tag:=(L k).t,key:=(L k).k,text:=(L k).x,ats:=Zc (L k),ao:=f,an:=(L k).an,ac:=q }) (λb P=>Xb6 G P) K.out aa.out aW.out aV ab (λs e=>by have e:f=some s:=e;subst e;exact (World.ownsRow.lt O.out s.block rfl).1) (by rw [N.out];omega);have ae:Xb w (T.setCell (Xa w.heap.size 0) (Xe b5 (R.length+1) aN)):=by refine Below.setCell (p:=(Xa w.heap.size 0)) ?_ X0 _;refine Below.grown (((aK.out.trans (K.out.mono G)).alloc (Xb6 G K.out.size) _).drew) aa.out (by simp;omega) (λj a2=>(l.out.2.1.srow j a2).1)
    have aX:=Qa ad;have aY:=Qa ae;clear ad ae ab;go_roundw
    ·refine ⟨k+1,R++[{ id:=(k:Int)+1,par:=0,tag:=(L k).t,key:=(L k).k,text:=(L k).x,ats:=Zc (L k),ao:=f,an:=(L k).an,ac:=q }],_,by omega,by go_num,Qa ⟨by rw [length_append,N.out];rfl,aX.out,λi B=>?_⟩,aY.out⟩;by_cases af:i<R.length
     ·rw [getElem_append_left af];exact l.out.2.2 i af
     have aZ:i=k:=by have:=N.out;rw [length_append] at B;simp at B;omega
     subst aZ;rw [getElem_append_right (by omega)];simp only [N.out,Nat.sub_self,getElem_cons_zero];exact ⟨rfl,aM.out,rfl,rfl,rfl,rfl⟩
    simp [intOf];omega
   have bG:decide ((0:Int)<(k:Int))=true:=by simp;omega
   have aQ:=Qa az;have aR:0<k:=by omega
   obtain ⟨bL,bM⟩:=bP.out k a1 aR;obtain ⟨cd,ce⟩:=bQ.out k a1 aR;clear az;go_wp2_with (first|(at_builtin;refine Zp _ rfl (.tmp 35) (.tmp 40) 31 rfl wr.heap.size 72 bv _ 2 32 Tryz.underlying31 a2 bj bk bl rfl Xv 0 [] rfl (Qb bc) (L k).ao (L k).an (L k).ac (QS (Zc (L k))) rfl (Qb bo) (by rw [Qei,(Qb ay)]) (QhQ (Qb ay).symm ((Qb bp).below X4.drew)) (QeC _) (by omega) (by omega) (by show wr.heap.size<=w3.heap.size;omega) ?_;intro bW aJ a4 a5 _;have J:=Qb a4;rw [Nat.zero_add,nil_append] at J;clear a4;obtain ⟨f,q,rfl⟩:=Qy J;have a6:=Qa J;clear J;have o:=(Below.refl w3.heap.size w3).drew.trans (Qh9 (Qb a5));have bX:=o.size;have v0:=(Xh o wr.heap.size 0 y).trans aC;have ag:=(Xh o wr.heap.size 1 y).trans aD;have ah:=(Xh o wr.heap.size 2 y).trans aE;have ai:=(Xh o wr.heap.size 3 y).trans aF;have v4:=(Xh o wr.heap.size 4 y).trans aG;have aj:=(Xh o wr.heap.size 5 y).trans aH;have aA:=(Xj o wr.heap.size 1 y).trans aw;have aS:=(Xj o wr.heap.size 4 y).trans ax;have aB:=Qa o;clear o aC aD aE aF aG aH aw ax aI)|(go_at_call 24;refine (Qne b E n c L k _ (by unfold maxLen;omega) a1 ((Qb bA).below (((Qb aK).trans ((Qb aP).mono G)).trans (((Qb aB).mono (by omega)).setCell (p:=(Xa wr.heap.size 4)) G _))) bL bM).mono ?_;rintro e b9 ⟨rfl,I⟩;have br:=Qa I;have ca:=I.size;have u0:=(Xh I wr.heap.size 0 (by rw [QJ];show wr.heap.size<_;omega)).trans (show _=some (Xi ((k:Int)+1)) by simp [go_sem,v0]);have u1:=(Xh I wr.heap.size 1 (by rw [QJ];show wr.heap.size<_;omega)).trans (show _=some (Xi 0) by simp [go_sem,ag]);have u2:=(Xh I wr.heap.size 2 (by rw [QJ];show wr.heap.size<_;omega)).trans (show _=some (.string (L k).t) by simp [go_sem,ah]);have u3:=(Xh I wr.heap.size 3 (by rw [QJ];show wr.heap.size<_;omega)).trans (show _=some (Xi (L k).k) by simp [go_sem,ai]);have u4:=(Xh I wr.heap.size 4 (by rw [QJ];show wr.heap.size<_;omega)).trans (show _=some (.slice f (L k).an q) by simp [go_sem,v4]);have u5:=(Xh I wr.heap.size 5 (by rw [QJ];show wr.heap.size<_;omega)).trans (show _=some (.string (L k).x) by simp [go_sem,aj]);have bN:=(Xj I wr.heap.size 1 (by rw [QJ];show wr.heap.size<_;omega)).trans (show _=false by simp [go_sem,aA]);clear I v0 ag ah ai v4 aj aA aS));generalize u:b9.setCell (Xa wr.heap.size 1) (Xi (Q1 L k k+1))=a;have cf:aJ.heap.size<=b9.heap.size:=by have:=ca;rwa [QJ] at this
   have a7:a.heap.size=b9.heap.size:=by rw [<- u];exact QJ _ _ _
   have K:Hid (Xb wr a):=by rw [<- u];exact Qa ((((aP.out.trans (aB.out.mono (by omega))).setCell (p:=(Xa wr.heap.size 4)) X0 _).trans (br.out.mono (by rw [QJ];omega))).setCell (p:=(Xa wr.heap.size 1)) X0 _)
   have U:a.cell? (Xa wr.heap.size 0)=some (Xi ((k:Int)+1)):=by rw [<- u];simp [go_sem,u0]
   have V:a.cell? (Xa wr.heap.size 1)=some (Xi (Q1 L k k+1)):=by rw [<- u];simp [go_sem,u1]
   have W:a.cell? (Xa wr.heap.size 2)=some (.string (L k).t):=by rw [<- u];simp [go_sem,u2]
   have X:a.cell? (Xa wr.heap.size 3)=some (Xi (L k).k):=by rw [<- u];simp [go_sem,u3]
   have Y:a.cell? (Xa wr.heap.size 4)=some (.slice f (L k).an q):=by rw [<- u];simp [go_sem,u4]
   have a0:a.cell? (Xa wr.heap.size 5)=some (.string (L k).x):=by rw [<- u];simp [go_sem,u5]
   have aT:=Qa u;have bH:=Qa a7;have bI:=Qa a6.out;have b2:wr.heap.size<a.heap.size:=by omega
   have ak:w.heap.size<a.heap.size:=by omega
   have M:Xb wr a:=K.out;have al:Xc a w.heap.size 0 (.slice ao R.length z):=(Xh M w.heap.size 0 au).trans l.out.2.1.c0;have a8:Xf a w.heap.size 0:=(Xj M w.heap.size 0 au).trans l.out.2.1.f0;have aL:=Qa (QX l.out.2.1.row M);have np:some w.heap.size≠Value.ownBlock (.slice ao R.length z):=λe=>(l.out.2.1.srow w.heap.size e.symm).2 rfl;have b3:some wr.heap.size≠Value.ownBlock (.slice ao R.length z):=λe=>by have:=(l.out.2.1.row.lt wr.heap.size e.symm).2;omega
   have bJ:=l.out.2.1.few;have a9:=l.out.1;have N:=Qa a9;clear M a9;have O:Hid (a.ownsRow wr.heap.size 72 2 (.slice f (L k).an q) (L k).an (QS (Zc (L k)))):=by
    rw [<- aT.out];have bd:∀ r,Value.ownBlock (.slice f (L k).an q)=none \/ Value.ownBlock (.slice f (L k).an q)≠some (Addr.block (Xa wr.heap.size r)):=λr=>by
     rcases a5.out.at with e|e
     ·exact .inl e
     right;rw [e];intro b4;have aI:w3.heap.size=wr.heap.size:=Xb5 b4;omega
    refine Qa (Qbl (QX (Qbl a6.out (bd 4)) br.out) (bd 1))
   have aM:Hid (Q1 L k k+1=Qam L k):=Qa (by unfold Qam;rw [if_neg aQ.out]);clear u a7 u0 u1 u2 u3 u4 u5 bN;have aU:(λw':World=>Xf w' w.heap.size 0/\Xc w' w.heap.size 0 (.slice ao R.length z)/\Xc w' wr.heap.size 0 (Xi ((k:Int)+1))/\Xc w' wr.heap.size 1 (Xi (Q1 L k k+1))/\Xc w' wr.heap.size 2 (.string (L k).t)/\Xc w' wr.heap.size 3 (Xi (L k).k)/\Xc w' wr.heap.size 4 (.slice f (L k).an q)/\Xc w' wr.heap.size 5 (.string (L k).x)) a.drew:=⟨a8,al,U,V,W,X,Y,a0⟩;refine ZU (S:=(λw':World=>w'.frozen? (Xa w.heap.size 0)=false/\w'.cell? (Xa w.heap.size 0)=some (.slice ao R.length z)/\w'.cell? (Xa wr.heap.size 0)=some (Xi ((k:Int)+1))/\w'.cell? (Xa wr.heap.size 1)=some (Xi (Q1 L k k+1))/\w'.cell? (Xa wr.heap.size 2)=some (.string (L k).t)/\w'.cell? (Xa wr.heap.size 3)=some (Xi (L k).k)/\w'.cell? (Xa wr.heap.size 4)=some (.slice f (L k).an q)/\w'.cell? (Xa wr.heap.size 5)=some (.string (L k).x))) (by kernel_rfl) ?_;iterate 6
    apply Qbz ?_ aU ?_;rotate_left
    ·(intro w' hSw;(try dsimp only at hSw);simp only [Xq];go_simp;try (with_reducible rfl))
    simp only [Xq,Xr]
   refine Qbe 6 ?_;simp only [Xq];go_simp;refine Qbe 7 ?_;simp only [Xq];refine wp_append_lies _ _ _ _ (by rfl) 0 91 bu _ 6 80 Tryz.underlying87 B bg bh bi rfl (by omega) (.slice ao R.length z) R.length (ZS R) (by rfl) ((World.ownsRow.alloc (Qb aL) _).drew) (Xa a.heap.size 0) 1 1 [Xi ((k:Int)+1),Xi (Q1 L k k+1),.string (L k).t,Xi (L k).k,.slice f (L k).an q,.string (L k).x] (by rfl) (by rfl) (World.news_of_block (cs:=#[Xi ((k:Int)+1),Xi (Q1 L k k+1),.string (L k).t,Xi (L k).k,.slice f (L k).an q,.string (L k).x]) (t:=91) (fr:=(0,0)) (Xc5 a _)) (by simp [Value.oneCell']) (by omega) (by unfold maxLen;omega) (by omega) X3 (a.heap.size+1) (by simp) ?_;intro b5 aN T a3 C aV bC;have b6:T.frozen? (Xa w.heap.size 0)=false:=(C.frozen_far (Xa w.heap.size 0) (by simp;omega) np).trans ((Xd1 (w:=a) (Xc1 _ _ _ ak)).trans a8);have b7:T.cell? (Xa w.heap.size 0)=some (.slice ao R.length z):=(C.cell_far (Xa w.heap.size 0) (by simp;omega) np).trans ((Xb3 (w:=a) (Xc1 _ _ _ ak)).trans al);have h:∀ j,T.cell? (Xa wr.heap.size j)=a.cell? (Xa wr.heap.size j):=λj=>(C.cell_far (Xa wr.heap.size j) (by simp;omega) b3).trans (Xb3 (w:=a) (Xc1 _ _ _ b2));refine ⟨.inr ⟨b6,b7,(h 0).trans U,(h 1).trans V,(h 2).trans W,(h 3).trans X,(h 4).trans Y,(h 5).trans a0⟩,?_⟩;have bY:=(h 0).trans U;have bZ:=(h 1).trans V;have c5:=(h 2).trans W;have c6:=(h 3).trans X;have c7:=(h 4).trans Y;have c8:=(h 5).trans a0;have aW:=Qa a3;have aa:=Qa C;clear a3 C h;simp only [Xr];refine Qbe 8 ?_;simp only [Xq];go_simp;refine Qbe 9 ?_;simp only [Xq];go_simp;refine Qbe 10 ?_;simp only [Xq];go_simp;refine ⟨by kernel_rfl,?_⟩;refine ZP (by kernel_rfl) ?_ _;go_wp2_with fail;have ab:RN.Ok (λb=>w.heap.size<=b) a { id:=(k:Int)+1,par:=Q1 L k k+1,tag:=(L k).t,key:=(L k).k,text:=(L k).x,ats:=Zc (L k),ao:=f,an:=(L k).an,ac:=q }:=by
    have ap:∀ s,f=some s->wr.heap.size<=s.block/\s.block<a.heap.size:=λs e=>by subst e;exact World.ownsRow.lt O.out s.block rfl
    refine ⟨(Qba _).symm,bn,λe=>?_,ar.out.t,ar.out.x,QfW O.out (Qba _).symm (Qey (Qba _).symm aO.out),λs e=>⟨Xb6 G (ap s e).1,(ap s e).2⟩⟩;have e:f=none:=e;subst e;rcases O.out.2 with ⟨D,b8⟩|⟨c9,bD,bK,D,_⟩
    ·simp only [Value.slice.injEq] at D;exact ⟨b8,D.2.2⟩
    simp only [Value.slice.injEq] at D;cases D.1
   have ad:=l.out.2.1.pushed (m:={ id:=(k:Int)+1,par:=Q1 L k k+1,tag:=(L k).t,key:=(L k).k,text:=(L k).x,ats:=Zc (L k),ao:=f,an:=(L k).an,ac:=q }) (λb P=>Xb6 G P) K.out aa.out aW.out aV ab (λs e=>by have e:f=some s:=e;subst e;exact (World.ownsRow.lt O.out s.block rfl).1) (by rw [N.out];omega);have ae:Xb w (T.setCell (Xa w.heap.size 0) (Xe b5 (R.length+1) aN)):=by refine Below.setCell (p:=(Xa w.heap.size 0)) ?_ X0 _;refine Below.grown (((aK.out.trans (K.out.mono G)).alloc (Xb6 G K.out.size) _).drew) aa.out (by simp;omega) (λj a2=>(l.out.2.1.srow j a2).1)
   have aX:=Qa ad;have aY:=Qa ae;clear ad ae ab;go_roundw
   ·refine ⟨k+1,R++[{ id:=(k:Int)+1,par:=Q1 L k k+1,tag:=(L k).t,key:=(L k).k,text:=(L k).x,ats:=Zc (L k),ao:=f,an:=(L k).an,ac:=q }],_,by omega,by go_num,Qa ⟨by rw [length_append,N.out];rfl,aX.out,λi B=>?_⟩,aY.out⟩;by_cases af:i<R.length
    ·rw [getElem_append_left af];exact l.out.2.2 i af
    have aZ:i=k:=by have:=N.out;rw [length_append] at B;simp at B;omega
    subst aZ;rw [getElem_append_right (by omega)];simp only [N.out,Nat.sub_self,getElem_cons_zero];exact ⟨rfl,aM.out,rfl,rfl,rfl,rfl⟩
   simp [intOf];omega
  have bO:k=n:=by omega
  subst bO;go_wp2;go_ret;exact ⟨rfl,F,R,_,l.out.2.1,l.out.1,l.out.2.2⟩
end Go.Proofs.YtobgcaemnpkbmaaGreat
