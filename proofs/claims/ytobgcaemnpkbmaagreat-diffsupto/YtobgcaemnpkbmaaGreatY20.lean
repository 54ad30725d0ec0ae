import Derived.Test.YtobgcaemnpkbmaaGreatY19
namespace Go.Proofs.YtobgcaemnpkbmaaGreat
set_option maxRecDepth 100000
set_option maxHeartbeats 8000000
open Go.RowKit List
variable {last:Int} {nb:Int->Nat} {R:List RN} {WB b mb n o q:Nat} {L:Nat->Qd} {rt:Option Nat} {ρ:Qz} {w:World}
theorem Qsd T nb (S:Int->Prop) br L f (db:Qgc T nb S br L f) (d9:QgQ br L f) (dQ:∀ i,(T i).kids.length<=1000/\(T i).ats.length<=5) B WB pv P last w (dL:Zl B w WB pv P last) (dD:B<=w.heap.size) (cO:Qb5 WB pv w nb S T) N id x (c9:QdO WB pv w nb N id x) (cP:x.Ok) (cn:∀ k,k ∈ x.kids->S k) (b l s n c:Nat) (dE:1<=n) (bB:n<=f+1) (bV:n<=c) (bt:n<=1000) (cQ:Qbj WB pv w b l n (λi=>L (s+i))) (cR:∀ i,i<n->(L (s+i)).Small) (ff:P.length+1020*n<=800011) (dR:0<=last) (dS:last+n<=4611686018427387904) (C:Nat) (bW:Option Addr) (m bX:Nat) (ci:w.ownsRow C 24 1 (.slice bW m bX) m (QaZ b l c (Qe L s n))) (ca:m=(Qe L s n).length) (dc:∀ g,Value.ownBlock (.slice bW m bX)=some g->ZB WB pv w g) : Xl 94 #[Xp WB,Xp N,.slice bW m bX] w (Qb3 B WB pv P w (Qad br T L id x s n last)):=by
 obtain ⟨dF,aT,cb,cS⟩:=c9.c6;have co:=cP.kids;have fn:m<=n:=by rw [ca];exact Qim _ _
 have cp:Hid (Xl 112 #[Xp N,.slice bW m bX] w λe w'=>∃ q,e=.returned q/\w'.ownsRow w.heap.size 3 1 q m (Qs (QE T L x.kids s (Qe L s n)))/\Xb w w'):=Qa (Qov cO c9.free.1 cb cS cn co dE bt cQ cR ci ca);have bY:=Qa db;have dT:=Qa d9;have dM:=Qa dL;have cT:=Qa cO;have cc:=Qa c9;have dG:=Qa cQ;have aN:=Qa cR;have dH:=Qa ci;have cU:=Qa dc;have cV:=Qa cS;have cd:=Qa ca;have fx:=Qa cP;have bu:=Qa cn;clear d9 db dL cO c9 cQ cR ci dc cS ca cP cn;have cq:Hid (((QE T L x.kids s (Qe L s n)).filter QL).length<=100000):=Qa (by have:=length_filter_le QL (QE T L x.kids s (Qe L s n));rw [QE,QhE] at this;rw [QE];have:=Qim (λi=>(L (s+i)).d) n;unfold Qe at *;omega);generalize ce:Qad br T L id x s n last=r;go_enter Tryz.func94,Tryz.ntmps94;have cr:Hid (∀ (w1:World) (bn:Option Addr) (bo:Nat),Xb w w1->w1.ownsRow w.heap.size 3 1 (.slice bn m bo) m (Qs (QE T L x.kids s (Qe L s n)))->Xl 113 #[Xp WB,Xp N,.slice bn m bo] w1 λe w'=>e=.returned (.tuple #[])/\∃ y,Zl B w' WB y (P++ZK (λj=>x.kids.getD j 0) (QE T L x.kids s (Qe L s n)) x.kids.length) last/\QT WB pv y w w'/\QdC WB y w' w.heap.size (.slice bn m bo) m (QE T L x.kids s (Qe L s n))) := Qa λw1 bn bo a3 ce=>QtH dM.out dD cT.out cc.out.free cb cV.out bu.out co (by omega) a3 (by omega) ce;generalize dd:QE T L x.kids s (Qe L s n)=pr at cp cr cq;have bC:=Qa dd;clear dd;go_wp2_with (first|(go_at_call 112;refine (Qb cp).mono ?_;rintro e w1 ⟨q1,rfl,cs,de⟩;obtain ⟨bn,bo,rfl⟩:=Qy cs;have df:=Qa cs;have dg:=Qa de;clear cs de)|(go_at_call 113;refine (Qb cr _ _ _ dg.out df.out).mono ?_;rintro e w2 ⟨rfl,aq,dh,di,dj⟩;have c7:=Qa dh;have dk:=Qa di;have ct:=Qa dj;clear dh di dj)|(go_at_call 116;refine (Qro w.heap.size bn m bo pr _ ct.out.row (by omega)).mono ?_;rintro e w3 ⟨q3,rfl,cu,dl⟩;obtain ⟨dU,dV,rfl⟩:=Qy cu;have dm:=Qa cu;have aO:=Qa dl;clear cu dl)|(go_at_call 115;refine (QtF w2.heap.size dU m dV pr _ dm.out (by omega)).mono ?_;rintro e w4 ⟨aU,rfl,cv,F⟩;obtain ⟨dW,dX,rfl⟩:=Qy cv;have dn:=Qa cv;have U:=Qa F;clear cv F)|(go_at_call 114;refine (Qur w2.heap.size dW _ dX (pr.filter QL) (λj=>(pr.filter QL).getD j 0) (λj cf=>by simp [cf]) _ dn.out cq.out).mono ?_;rintro e aa ⟨aV,rfl,cw,ah⟩;obtain ⟨dp,dq,rfl⟩:=Qy cw;have bv:=Qa cw;have cx:=Qa ah;clear cw ah));have aJ:QT WB pv aq w aa:=dk.out.trans (.of_below (aO.out.trans (Below.trans ⟨U.out.os,U.out.tape,U.out.output,Xb6 aO.out.size U.out.size |> λ_=>U.out.size,λk aW=>U.out.block k (Xb4 aW aO.out.size) (by omega)⟩ (cx.out.mono (Xb6 aO.out.size U.out.size)))));have da:Xb w2 aa:=aO.out.trans (Below.trans ⟨U.out.os,U.out.tape,U.out.output,U.out.size,λk aW=>U.out.block k (Xb4 aW aO.out.size) (by omega)⟩ (cx.out.mono (Xb6 aO.out.size U.out.size)));have dY:Zl B aa WB aq (P++ZK (λj=>x.kids.getD j 0) pr x.kids.length) last:=c7.out.below da;have dZ:QdC WB aq aa w.heap.size (.slice bn m bo) m pr:=ct.out.tells (.of_below da);have fo:w2.heap.size<=w4.heap.size:=Xb6 aO.out.size U.out.size;have f0:QbK WB aq aa dp (Q4 pr):=.of_row bv.out (λg e=>⟨(bv.out.lt g e).2,λdI=>by have:=c7.out.lt;have:=(bv.out.lt g e).1;omega,λdI=>by have:=(c7.out.row.lt g dI).2;have:=(bv.out.lt g e).1;omega⟩);have dN:(Q4 pr).length<=dq:=QoH bv.out;have f1:=Qa dY;have dr:=Qa dZ;have f2:=Qa f0;have aP:=Qa (cT.out.tells aJ);have ak:=Qa (dG.out.tells aJ);have a7:=Qa (cc.out.tells aJ);have f3:=Qa (Q8 dH.out λg e=>(cU.out g e).block aJ);have f4:=Qa (λg e=>(cU.out g e).tells aJ:∀ g,Value.ownBlock (.slice bW m bX)=some g->ZB WB aq aa g);have cW:=Qa ((cc.out.free.cell aJ).trans cb);have bK:Hid (∀ j,j<x.kids.length->∃ g,dF=some (Xa g 0)/\ZB WB aq aa g/\Xc aa g j (Xp (nb (x.kids.getD j 0)))):=Qa λj cf=>by obtain ⟨g,e,f,c⟩:=cV.out j cf;exact ⟨g,e,f.tells aJ,(f.cell aJ).trans c⟩
 have ah:B<=aa.heap.size:=Xb6 dD aJ.touch.size;have f5:=Qa aJ;generalize cy:Qe L s n=ps at *;obtain ⟨K,cg⟩:∃ K:Nat->KS,∀ k,Zq br T L id x.kids s ps pr ⟨ZK (λj=>x.kids.getD j 0) pr x.kids.length,Q4 pr,last⟩ k=K k:=⟨_,λ_=>rfl⟩;have cz:=Qa cg;have f6:=Qa cy;have c8:K 0=⟨ZK (λj=>x.kids.getD j 0) pr x.kids.length,Q4 pr,last⟩:=(cg 0).symm;have ds:r=((K m).pats,(K m).last):=by rw [<- ce,cd.out,<- cg];unfold Qad;simp only [cy,bC.out]
 have dO:=Qa ds;have f7:Hid (∀ k,k<m->(1<=(ps.getD k (0,0)).1/\(ps.getD k (0,0)).1<(ps.getD k (0,0)).2/\(ps.getD k (0,0)).2<=n)/\(P++(K k).pats).length+2+1020*((ps.getD k (0,0)).2-(ps.getD k (0,0)).1)<=800000/\0<=(K k).last/\(K k).last+1+(((ps.getD k (0,0)).2-(ps.getD k (0,0)).1:Nat):Int)<=4611686018427387904/\(∀ bs,bs ∈ (K k).stay->bs ∈ Q4 pr)) := Qa λk aW=>QnX dT.out dQ id co dE bB aN.out ff dR dS f6.out pr k (by rw [cd.out] at aW;exact aW) (K k) (cz.out k);have dP:Hid (∀ k,k<m->pr.getD k 0=-1 \/ ∃ A:Nat,pr.getD k 0=(A:Int)/\A<x.kids.length):=Qa λk aW=>by
  have fy:pr.length=m:=by rw [<- bC.out,QeT,cd.out]
  have dt:pr.getD k 0 ∈ pr:=by rw [Xg (by omega)];exact Xa0 _
  rw [<- bC.out] at dt;rcases QfQ dt with e|⟨bD,bZ⟩
  ·exact .inl (by rw [<- bC.out];exact e)
  rw [bC.out] at bD bZ;exact .inr ⟨(pr.getD k 0).toNat,by omega,by omega⟩
 have f8:Hid (∀ bs,bs ∈ Q4 pr->∃ I:Nat,bs=(I:Int)/\I<x.kids.length):=Qa λbs fg=>by
  obtain ⟨bD,bZ⟩:=Qe1 fg;rw [<- bC.out] at bD;rcases QfQ bD with e|⟨fz,fA⟩
  ·exact absurd e bZ
  exact ⟨bs.toNat,by omega,by omega⟩
 clear cp cr cq c7 dk ct aO U dn cx bv dm df dg dM cT cc dG dH cU cV ds cg ce cy cb;go_loopw [7,8,9,10,11,25] (λfh _ _ _ _ c wr=>∃ k:Nat,c=Xi (k:Int)/\k<=m/\∃ cX bE cY,fh=.slice cX bE cY/\bE=(K k).stay.length/\bE<=cY/\Hid (∃ y,Zl B wr WB y (P++(K k).pats) (K k).last/\QT WB aq y aa wr/\QbK WB y wr cX (K k).stay)) (λ_ _ _ _ _ c _=>m-(intOf c).toNat);·exact ⟨0,rfl,X3,dp,_,dq,rfl,by rw [c8];rfl,dN,Qa ⟨aq,by rw [c8];exact f1.out,.refl ..,by rw [c8];exact f2.out⟩⟩
 case round =>
  obtain ⟨k,rfl,aW,cX,bE,cY,rfl,aQ,ai,cZ⟩:=hrel;by_cases aK:k<m
  ·obtain ⟨al,du,aR,ar⟩:=cZ.out;clear cZ c8;obtain ⟨dJ,dv,dw,dx,aS⟩:=f7.out k aK;have dy:K (k+1)=Qbk br T L id x.kids s (K k) (ps.getD k (0,0)) (pr.getD k 0):=by rw [<- cz.out,<- cz.out];rfl
   obtain ⟨d0,rfl,f9,-,dz⟩:=QnA f3.out cd.out aK;have cA:=f4.out d0 rfl;have fB:Xc wr d0 k (.slice (some ⟨b,l+(ps.getD k (0,0)).1*5,none⟩) ((ps.getD k (0,0)).2-(ps.getD k (0,0)).1) (c-(ps.getD k (0,0)).1)):=(cA.cell aR).trans dz;obtain ⟨R,cB,rfl,fa,dA⟩:=Qhm dr.out.row aK;have bL:=dr.out.free R rfl;have bF:wr.cell? (Xa R k)=some (Xi (pr.getD k 0)):=by
    rw [bL.cell aR,dA,getD_eq_getElem?_getD];have:k<pr.length:=by rw [QaR] at cB;exact cB
    rw [getElem?_eq_getElem this];simp [Qs]
   have d1:Xc wr N 6 (.slice dF x.kids.length aT):=(a7.out.free.cell aR).trans cW.out;have cj:=dP.out k aK;have aL:=Qa dy;have bM:=Qa du;have aM:=Qa a7.out.free;have bw:=Qa bL;have bx:Hid (Xc aa R k (Xi (pr.getD k 0))):=Qa ((bL.cell aR).symm.trans bF);have o:=Qa aR;have fp:d0<wr.heap.size:=(cA.tells aR).1;have fq:R<wr.heap.size:=(bL.tells aR).1;have dK:N<wr.heap.size:=(a7.out.free.tells aR).1;have fr:Hid (∀ a,a=ps.getD k (0,0)->True):=Qa λ_ _=>trivial;generalize K k=q at *;generalize pr.getD k 0=p at *;generalize ps.getD k (0,0)=a at *;have a2:=Qa dJ;have O:=Qa (And.intro dv (And.intro dw dx));clear dz dA cB dy du aR cA bL f9 fa dJ dv dw dx;cases X:q.stay with
   | nil =>
    rw [X] at aQ ar aS;have bN:q.stay.head?≠some p:=by rw [X];simp
    rcases cj with bp|⟨A,bp,b5⟩
    ·subst bp;have J:=ak.out.node a.1 (by have:=a2.out;omega);have a8:=aN.out a.1 (by have:=a2.out;omega);have H:=ak.out.free;have bO:=a8.tag;have bP:=a8.text;have aD:=(H.cell o.out).trans J.c0;have aE:=(H.cell o.out).trans J.c1;have aF:=(H.cell o.out).trans J.c2;have aG:=(H.cell o.out).trans J.c3;have aH:=(H.cell o.out).trans J.c4;have d2:=(a7.out.free.cell o.out).trans a7.out.c0;have d3:=(H.tells o.out).1;have z:=Qa H;have b6:=Qa ar;have ck:0<a.2-a.1:=by have:=a2.out;omega
     clear J a8 H ar aS;have M:=aL.out;rw [Qdi bN rfl] at M;have aj:=Qa M;have b7:Hid (∀ y w' D,QT WB aq y aa w'->Zl B w' WB y (P++q.pats++[⟨1,q.last+1,0,0,(L (s+a.1)).k,(L (s+a.1)).t,⟨#[]⟩,(L (s+a.1)).x⟩]++[⟨2,q.last+1,id,JF x.kids q.stay,0,⟨#[]⟩,⟨#[]⟩,⟨#[]⟩⟩]) (q.last+1)->ZB WB y w' D->w'.heap[D]?=some (.cells #[Xi (q.last+1),Xi (L (s+a.1)).k,.string (L (s+a.1)).t,.string (L (s+a.1)).x,Xv,.pointer none,Xv] 138 (0,0))->Xl 71 #[Xp WB,Xp D,.slice (some (Xa b (l+a.1*5))) (a.2-a.1) (c-a.1)] w' (Qb3 B WB y (P++q.pats++[⟨1,q.last+1,0,0,(L (s+a.1)).k,(L (s+a.1)).t,⟨#[]⟩,(L (s+a.1)).x⟩]++[⟨2,q.last+1,id,JF x.kids q.stay,0,⟨#[]⟩,⟨#[]⟩,⟨#[]⟩⟩]) w' (br (q.last+1) ⟨(L (s+a.1)).k,(L (s+a.1)).t,(L (s+a.1)).x,[],[]⟩ (s+a.1) (a.2-a.1) (q.last+1)))):=Qa λy w' D b8 b9 d4 d5 => Qke bY.out ah aP.out bB bV bt ak.out aN.out a2.out y w' _ _ b8 b9 (by have:=O.out;simp only [length_append,length_cons,length_nil] at this ⊢;omega) (by have:=O.out;omega) (by have:=O.out;omega) D (q.last+1) d4 d5;generalize cC:L (s+a.1)=h at *;generalize az:JF x.kids q.stay=aI at *;have ba:Hid (∀ w1,Xb wr w1->Xl 118 #[Xp WB,Xp N,Xi (-1),.agg #[Xi h.d,.string h.t,Xi h.k,.slice h.ao h.an h.ac,.string h.x]] w1 λe w'=>∃ D y,e=.returned (Xp D)/\w1.heap.size<=D/\ZB WB y w' D/\w'.heap[D]?=some (.cells #[Xi (q.last+1),Xi h.k,.string h.t,.string h.x,Xv,.pointer none,Xv] 138 (0,0))/\Zl B w' WB y (P++q.pats++[⟨1,q.last+1,0,0,h.k,h.t,⟨#[]⟩,h.x⟩]) (q.last+1)/\QT WB al y w1 w'):=Qa λw1 a3 => QjM B WB al (P++q.pats) q.last w1 (bM.out.below a3) (Xb6 ah (Xb6 o.out.touch.size a3.size)) (by have:=O.out;omega) O.out.2.1 (by have:=O.out;omega) N h.d h.k h.t h.x _ bO bP;clear M aL;have aX:aI=0:=by rw [<- az,X];rfl
     clear az;subst aX;have aY:=aj;clear aY;go_wp2;go_big_quiet (fail);go_wp2_with fail;have G:Xb wr (wr.drewN nq):=Qv (.refl _ _) nq;have Y:(wr.drewN nq).cell? (Xa R k)=some (Xi (-1)):=bF;have ab:(wr.drewN nq).cell? (Xa b (l+a.1*5))=some (Xi h.d):=aD;have ad:(wr.drewN nq).cell? (Xa b (l+a.1*5+1))=some (.string h.t):=aE;have ae:(wr.drewN nq).cell? (Xa b (l+a.1*5+2))=some (Xi h.k):=aF;have af:(wr.drewN nq).cell? (Xa b (l+a.1*5+3))=some (.slice h.ao h.an h.ac):=aG;have ag:(wr.drewN nq).cell? (Xa b (l+a.1*5+4))=some (.string h.x):=aH;generalize wr.drewN nq=aw at G Y ab ad ae af ag ⊢;go_wp2_with fail;have E:(λw':World=>Xc w' R k (Xi (-1))/\Xc w' b (l+a.1*5) (Xi h.d)/\Xc w' b (l+a.1*5+1) (.string h.t)/\Xc w' b (l+a.1*5+2) (Xi h.k)/\Xc w' b (l+a.1*5+3) (.slice h.ao h.an h.ac)/\Xc w' b (l+a.1*5+4) (.string h.x)) aw.drew:=⟨Y,ab,ad,ae,af,ag⟩;refine ZU (S:=(λw':World=>w'.cell? (Xa R k)=some (Xi (-1))/\w'.cell? (Xa b (l+a.1*5))=some (Xi h.d)/\w'.cell? (Xa b (l+a.1*5+1))=some (.string h.t)/\w'.cell? (Xa b (l+a.1*5+2))=some (Xi h.k)/\w'.cell? (Xa b (l+a.1*5+3))=some (.slice h.ao h.an h.ac)/\w'.cell? (Xa b (l+a.1*5+4))=some (.string h.x))) (by kernel_rfl) ?_;iterate 9
      apply Qbz ?_ E ?_;rotate_left
      ·(intro w' hSw;(try obtain ⟨q0,q1,q2,q3,aU,aV⟩:=hSw);simp only [Xq];go_simp;try (with_reducible rfl))
      simp only [Xq,Xr]
     refine Qbe 9 ?_;simp only [Xq];go_simp;refine (ba.out _ G.drew).mono ?_;rintro e v ⟨D,cD,rfl,bQ,bR,bb,aA,a4⟩;have u:=(o.out.trans (.of_below G.drew)).trans a4;have E:(λw':World=>Xc w' R k (Xi (-1))/\Xc w' b (l+a.1*5) (Xi h.d)/\Xc w' b (l+a.1*5+1) (.string h.t)/\Xc w' b (l+a.1*5+2) (Xi h.k)/\Xc w' b (l+a.1*5+3) (.slice h.ao h.an h.ac)/\Xc w' b (l+a.1*5+4) (.string h.x)) v:=⟨(bw.out.cell u).trans bx.out,(z.out.cell u).trans ((z.out.cell o.out).symm.trans aD),(z.out.cell u).trans ((z.out.cell o.out).symm.trans aE),(z.out.cell u).trans ((z.out.cell o.out).symm.trans aF),(z.out.cell u).trans ((z.out.cell o.out).symm.trans aG),(z.out.cell u).trans ((z.out.cell o.out).symm.trans aH)⟩;refine ⟨.inr E,?_⟩;refine J9 10 ?_;apply Qbh ?_ E ?_;rotate_left
     ·(intro w' hSw;(try obtain ⟨q0,q1,q2,q3,aU,aV⟩:=hSw);simp only [Xq];go_simp;try (with_reducible rfl))
     simp only [Xq,Xr];refine ZP (by kernel_rfl) ?_ _;have V:=Qj bb 0 (Xi (q.last+1)) rfl;generalize fb:q.last+1=i at *;have aB:=Qa bR;have cE:=Qa bb;have bc:=Qa aA;clear bR bb bQ aA;have W:Xc v N 0 (Xi id):=(aM.out.cell u).trans a7.out.c0;have aZ:=Qa (aM.out.tells u);have aC:=Qa u;have bd:=Qa (b6.out.tells ((QT.of_below G.drew).trans a4));have bf:B<=v.heap.size:=Xb6 ah u.touch.size;clear u a4 E Y ab ad ae af ag G;go_wp2_with fail;have E:(λw':World=>Xc w' D 0 (Xi i)/\Xc w' N 0 (Xi id)) v.drew:=⟨V,W⟩;refine ZU (S:=(λw':World=>w'.cell? (Xa D 0)=some (Xi i)/\w'.cell? (Xa N 0)=some (Xi id))) (by kernel_rfl) ?_;iterate 11
      apply Qbz ?_ E ?_;rotate_left
      ·(intro w' hSw;(try obtain ⟨q0,q1⟩:=hSw);simp only [Xq];go_simp;try (with_reducible rfl))
      simp only [Xq,Xr]
     refine Qbe 11 ?_;simp only [Xq];go_simp;refine ⟨.inr ?_,?_⟩
     ·exact ⟨((((Below.refl v.heap.size v).alloc X0 _).cell (p:=(Xa D 0)) (X6 V))).trans V,((((Below.refl v.heap.size v).alloc X0 _).cell (p:=(Xa N 0)) (X6 W))).trans W⟩
     clear E;refine Qbe 12 ?_;simp only [Xq];go_simp;refine (Qdt B WB cD (P++q.pats++[⟨1,i,0,0,h.k,h.t,⟨#[]⟩,h.x⟩]) i v bc.out bf (by have:=O.out;simp only [length_append,length_cons,length_nil] at this ⊢;omega) 2 i id 0 0 ⟨#[]⟩ ⟨#[]⟩ ⟨#[]⟩ (by decide) (by decide) (by decide)).mono ?_;rintro e bq ⟨rfl,bg,a9,F⟩;refine ⟨.inr ⟨(aB.out.cell F).trans V,(aZ.out.cell F).trans W⟩,?_⟩;have cF:=Qa a9;have cl:=Qa F;have U:=Qa (aC.out.trans F);have bh:=Qa (bd.out.tells F);have bi:=Qa (b7.out bg bq D (aC.out.trans F) a9 (aB.out.tells F) ((aB.out.block F).trans cE.out));clear a9 F V W;refine ZP (by kernel_rfl) ?_ _;go_wp2_with (first|(go_at_call 71;refine (Qb bi).mono ?_;rintro e d6 ⟨rfl,bj,ax,a5⟩;have b0:=Qa ax;have b1:=Qa (U.out.trans a5);have b2:=Qa (bh.out.tells a5);clear ax a5));go_roundw
     ·have a6:=aj.out;refine ⟨k+1,by go_num,aK,_,_,_,rfl,?_,?_,Qa ⟨bj,?_,b1.out,?_⟩⟩
      ·rw [a6];simp [X]
      ·simp at ai ⊢
      ·rw [a6];simpa [append_assoc] using b0.out
      rw [a6];simpa [X] using b2.out
     simp [intOf];omega
    subst bp;have J:=ak.out.node a.1 (by have:=a2.out;omega);have a8:=aN.out a.1 (by have:=a2.out;omega);have H:=ak.out.free;have bO:=a8.tag;have bP:=a8.text;have aD:=(H.cell o.out).trans J.c0;have aE:=(H.cell o.out).trans J.c1;have aF:=(H.cell o.out).trans J.c2;have aG:=(H.cell o.out).trans J.c3;have aH:=(H.cell o.out).trans J.c4;have d2:=(a7.out.free.cell o.out).trans a7.out.c0;have d3:=(H.tells o.out).1;have z:=Qa H;have b6:=Qa ar;have ck:0<a.2-a.1:=by have:=a2.out;omega
    clear J a8 H ar aS;obtain ⟨a1,rfl,au,av⟩:=bK.out A b5;have bG:Xc wr a1 A (Xp (nb (x.kids.getD A 0))):=(au.cell o.out).trans av;have b3:S (x.kids.getD A 0):=bu.out _ (by rw [Xg b5];exact Xa0 _);have bk:=aP.out.node _ b3;have b7:Hid (∀ y w',QT WB aq y aa w'->Zl B w' WB y (P++q.pats++[⟨2,x.kids.getD A 0,id,JF x.kids q.stay,0,⟨#[]⟩,⟨#[]⟩,⟨#[]⟩⟩]) q.last->Xl 71 #[Xp WB,Xp (nb (x.kids.getD A 0)),.slice (some (Xa b (l+a.1*5))) (a.2-a.1) (c-a.1)] w' (Qb3 B WB y (P++q.pats++[⟨2,x.kids.getD A 0,id,JF x.kids q.stay,0,⟨#[]⟩,⟨#[]⟩,⟨#[]⟩⟩]) w' (br (x.kids.getD A 0) (T (x.kids.getD A 0)) (s+a.1) (a.2-a.1) q.last))):=Qa λy w' b8 b9 => QhM bY.out ah aP.out bB bV bt ak.out aN.out a2.out b3 y w' _ _ b8 b9 (by have:=O.out;simp only [length_append,length_cons,length_nil] at this ⊢;omega) O.out.2.1 (by have:=O.out;omega);have M:=aL.out;rw [QdD bN (by omega)] at M;have aj:=Qa M;have bS:=Qa bk.free;have cG:=Qa bk.c0;have bz:=Qa au;have fc:=Qa av;generalize cC:L (s+a.1)=h at *;rw [Int.toNat_natCast] at aj;generalize T (x.kids.getD A 0)=fi at *;generalize bQ:nb (x.kids.getD A 0)=D at *;generalize x.kids.getD A 0=i at *;generalize az:JF x.kids q.stay=aI at *;have ba:Hid (∀ w1,Xb wr w1->Xl 118 #[Xp WB,Xp N,Xi (A:Int),.agg #[Xi h.d,.string h.t,Xi h.k,.slice h.ao h.an h.ac,.string h.x]] w1 λe w'=>e=.returned (Xp D)/\Xb w1 w'):=Qa λw1 a3 => Qlx WB N x.kids.length aT A a1 D b5 h.d h.k h.t h.x _ w1 ((Xh a3 N 6 dK).trans d1) ((Xh a3 a1 A (bz.out.tells o.out).1).trans bG);clear bk au av M aL;have aX:aI=0:=by rw [<- az,X];rfl
    clear az;subst aX;have aY:=aj;clear aY;go_wp2;go_big_quiet (fail);go_wp2_with fail;have G:Xb wr (wr.drewN nq):=Qv (.refl _ _) nq;have Y:(wr.drewN nq).cell? (Xa R k)=some (Xi (A:Int)):=bF;have ab:(wr.drewN nq).cell? (Xa b (l+a.1*5))=some (Xi h.d):=aD;have ad:(wr.drewN nq).cell? (Xa b (l+a.1*5+1))=some (.string h.t):=aE;have ae:(wr.drewN nq).cell? (Xa b (l+a.1*5+2))=some (Xi h.k):=aF;have af:(wr.drewN nq).cell? (Xa b (l+a.1*5+3))=some (.slice h.ao h.an h.ac):=aG;have ag:(wr.drewN nq).cell? (Xa b (l+a.1*5+4))=some (.string h.x):=aH;generalize wr.drewN nq=aw at G Y ab ad ae af ag ⊢;go_wp2_with fail;have E:(λw':World=>Xc w' R k (Xi (A:Int))/\Xc w' b (l+a.1*5) (Xi h.d)/\Xc w' b (l+a.1*5+1) (.string h.t)/\Xc w' b (l+a.1*5+2) (Xi h.k)/\Xc w' b (l+a.1*5+3) (.slice h.ao h.an h.ac)/\Xc w' b (l+a.1*5+4) (.string h.x)) aw.drew:=⟨Y,ab,ad,ae,af,ag⟩;refine ZU (S:=(λw':World=>w'.cell? (Xa R k)=some (Xi (A:Int))/\w'.cell? (Xa b (l+a.1*5))=some (Xi h.d)/\w'.cell? (Xa b (l+a.1*5+1))=some (.string h.t)/\w'.cell? (Xa b (l+a.1*5+2))=some (Xi h.k)/\w'.cell? (Xa b (l+a.1*5+3))=some (.slice h.ao h.an h.ac)/\w'.cell? (Xa b (l+a.1*5+4))=some (.string h.x))) (by kernel_rfl) ?_;iterate 9
     apply Qbz ?_ E ?_;rotate_left
     ·(intro w' hSw;(try obtain ⟨q0,q1,q2,q3,aU,aV⟩:=hSw);simp only [Xq];go_simp;try (with_reducible rfl))
     simp only [Xq,Xr]
    refine Qbe 9 ?_;simp only [Xq];go_simp;refine (ba.out _ G.drew).mono ?_;rintro e v ⟨rfl,bl⟩;have a4:QT WB al al aw.drew v:=.of_below bl;have u:=(o.out.trans (.of_below G.drew)).trans a4;have aA:=(bM.out.below G.drew).below bl;have E:(λw':World=>Xc w' R k (Xi (A:Int))/\Xc w' b (l+a.1*5) (Xi h.d)/\Xc w' b (l+a.1*5+1) (.string h.t)/\Xc w' b (l+a.1*5+2) (Xi h.k)/\Xc w' b (l+a.1*5+3) (.slice h.ao h.an h.ac)/\Xc w' b (l+a.1*5+4) (.string h.x)) v:=⟨(bw.out.cell u).trans bx.out,(z.out.cell u).trans ((z.out.cell o.out).symm.trans aD),(z.out.cell u).trans ((z.out.cell o.out).symm.trans aE),(z.out.cell u).trans ((z.out.cell o.out).symm.trans aF),(z.out.cell u).trans ((z.out.cell o.out).symm.trans aG),(z.out.cell u).trans ((z.out.cell o.out).symm.trans aH)⟩;refine ⟨.inr E,?_⟩;refine J9 10 ?_;apply Qbh ?_ E ?_;rotate_left
    ·(intro w' hSw;(try obtain ⟨q0,q1,q2,q3,aU,aV⟩:=hSw);simp only [Xq];go_simp;try (with_reducible rfl))
    simp only [Xq,Xr];refine ZP (by kernel_rfl) ?_ _;have V:Xc v D 0 (Xi i):=(bS.out.cell u).trans cG.out;have aB:=Qa (bS.out.tells u);have bc:=Qa aA;clear aA bl;have W:Xc v N 0 (Xi id):=(aM.out.cell u).trans a7.out.c0;have aZ:=Qa (aM.out.tells u);have aC:=Qa u;have bd:=Qa (b6.out.tells ((QT.of_below G.drew).trans a4));have bf:B<=v.heap.size:=Xb6 ah u.touch.size;clear u a4 E Y ab ad ae af ag G;go_wp2_with fail;have E:(λw':World=>Xc w' D 0 (Xi i)/\Xc w' N 0 (Xi id)) v.drew:=⟨V,W⟩;refine ZU (S:=(λw':World=>w'.cell? (Xa D 0)=some (Xi i)/\w'.cell? (Xa N 0)=some (Xi id))) (by kernel_rfl) ?_;iterate 11
     apply Qbz ?_ E ?_;rotate_left
     ·(intro w' hSw;(try obtain ⟨q0,q1⟩:=hSw);simp only [Xq];go_simp;try (with_reducible rfl))
     simp only [Xq,Xr]
    refine Qbe 11 ?_;simp only [Xq];go_simp;refine ⟨.inr ?_,?_⟩
    ·exact ⟨((((Below.refl v.heap.size v).alloc X0 _).cell (p:=(Xa D 0)) (X6 V))).trans V,((((Below.refl v.heap.size v).alloc X0 _).cell (p:=(Xa N 0)) (X6 W))).trans W⟩
    clear E;refine Qbe 12 ?_;simp only [Xq];go_simp;refine (Qdt B WB al (P++q.pats) q.last v bc.out bf (by have:=O.out;simp only [length_append] at this ⊢;omega) 2 i id 0 0 ⟨#[]⟩ ⟨#[]⟩ ⟨#[]⟩ (by decide) (by decide) (by decide)).mono ?_;rintro e bq ⟨rfl,bg,a9,F⟩;refine ⟨.inr ⟨(aB.out.cell F).trans V,(aZ.out.cell F).trans W⟩,?_⟩;have cF:=Qa a9;have cl:=Qa F;have U:=Qa (aC.out.trans F);have bh:=Qa (bd.out.tells F);have bi:=Qa (b7.out bg bq (aC.out.trans F) a9);clear a9 F V W;refine ZP (by kernel_rfl) ?_ _;go_wp2_with (first|(go_at_call 71;refine (Qb bi).mono ?_;rintro e d6 ⟨rfl,bj,ax,a5⟩;have b0:=Qa ax;have b1:=Qa (U.out.trans a5);have b2:=Qa (bh.out.tells a5);clear ax a5));go_roundw
    ·have a6:=aj.out;refine ⟨k+1,by go_num,aK,_,_,_,rfl,?_,?_,Qa ⟨bj,?_,b1.out,?_⟩⟩
     ·rw [a6];simp [X]
     ·simp at ai ⊢
     ·rw [a6];simpa [append_assoc] using b0.out
     rw [a6];simpa [X] using b2.out
    simp [intOf];omega
   | cons fj t =>
    rw [X] at aQ ar aS;obtain ⟨d7,cH,rfl,cI,fs,dB⟩:=ar.head;obtain ⟨I,rfl,bA⟩:=f8.out fj (aS _ (mem_cons_self ..));have ft:=cI.1;by_cases ch:p=(I:Int)
    ·subst ch;obtain ⟨a1,rfl,au,av⟩:=bK.out I bA;have bG:Xc wr a1 I (Xp (nb (x.kids.getD I 0))):=(au.cell o.out).trans av;have fu:=(au.tells o.out).1;have dC:Hid (∀ ap,ap=some (Xa d7 (cH+1)) \/ t.length=0->QbK WB al wr ap t):=Qa λap e=>by
      rcases e with rfl|e
      ·exact dB
      exact λj cf=>by omega
     have fv:=Qa cI;have bz:=Qa au;have b3:S (x.kids.getD I 0):=bu.out _ (by rw [Xg bA];exact Xa0 _);have d8:Hid (∀ w1,Xb wr w1->Xl 71 #[Xp WB,Xp (nb (x.kids.getD I 0)),.slice (some (Xa b (l+a.1*5))) (a.2-a.1) (c-a.1)] w1 (Qb3 B WB al (P++q.pats) w1 (br (x.kids.getD I 0) (T (x.kids.getD I 0)) (s+a.1) (a.2-a.1) q.last))):=Qa λw1 a3 => QhM bY.out ah aP.out bB bV bt ak.out aN.out a2.out b3 al w1 _ _ (o.out.trans (.of_below a3)) (bM.out.below a3) (by have:=O.out;omega) O.out.2.1 (by have:=O.out;omega);generalize nb (x.kids.getD I 0)=D at bG av d8;clear ar dB cI au aS cj;have fl:0<bE:=by rw [aQ];simp
     generalize fm:bE=fw at *;go_wp2;go_big_quiet (fail);have G:Xb wr (wr.drewN nq):=Qv (.refl _ _) nq;have c5:(wr.drewN nq).cell? (Xa N 6)=some (Xe a1 x.kids.length aT):=d1;have Y:(wr.drewN nq).cell? (Xa R k)=some (Xi (I:Int)):=bF;have c6:(wr.drewN nq).cell? (Xa a1 I)=some (Xp D):=bG;generalize wr.drewN nq=aw at G c5 Y c6 ⊢;go_wp2_with fail
     ·have E:(λw':World=>Xc w' N 6 (Xe a1 x.kids.length aT)/\Xc w' R k (Xi (I:Int))/\Xc w' a1 I (Xp D)) aw.drew:=⟨c5,Y,c6⟩;refine ZU (S:=(λw':World=>w'.cell? (Xa N 6)=some (Xe a1 x.kids.length aT)/\w'.cell? (Xa R k)=some (Xi (I:Int))/\w'.cell? (Xa a1 I)=some (Xp D))) (by kernel_rfl) ?_;iterate 12
       apply Qbz ?_ E ?_;rotate_left
       ·(intro w' hSw;(try obtain ⟨q0,q1,q2⟩:=hSw);simp only [Xq];go_simp;try (with_reducible rfl))
       simp only [Xq,Xr]
      refine Qbe 12 ?_;simp only [Xq];go_simp;refine (d8.out _ G.drew).mono ?_;rintro e v ⟨rfl,bT,bU,bm⟩;have ay:=(o.out.trans (.of_below G.drew)).trans bm;refine ⟨.inr ⟨(aM.out.cell ay).trans cW.out,(bw.out.cell ay).trans bx.out,(bz.out.cell ay).trans av⟩,?_⟩;have cJ:=Qa bU;have cm:=Qa ay;have cK:Hid (∀ ap,ap=some (Xa d7 (cH+1)) \/ t.length=0->QbK WB bT v ap t):=Qa λap e=>(dC.out ap e).tells ((QT.of_below G.drew).trans bm);clear bU ay bm E c5 Y c6 G;refine ZP (by kernel_rfl) ?_ _;go_wp2;go_roundw
      ·have M:=aL.out;rw [Qdg (by rw [X];rfl)] at M;refine ⟨k+1,by go_num,aK,_,_,_,rfl,?_,?_,Qa ⟨bT,?_,cm.out,?_⟩⟩
       ·rw [M,X];rfl
       ·rw [aQ] at ai;simp at ai;omega
       ·rw [M];simpa [append_assoc] using cJ.out
       rw [M,X];exact cK.out _ (by first|exact .inl rfl|(right;rw [aQ] at ai;simp at ai;omega))
      simp [intOf];omega
     have E:(λw':World=>Xc w' N 6 (Xe a1 x.kids.length aT)/\Xc w' R k (Xi (I:Int))/\Xc w' a1 I (Xp D)) aw.drew:=⟨c5,Y,c6⟩;refine ZU (S:=(λw':World=>w'.cell? (Xa N 6)=some (Xe a1 x.kids.length aT)/\w'.cell? (Xa R k)=some (Xi (I:Int))/\w'.cell? (Xa a1 I)=some (Xp D))) (by kernel_rfl) ?_;iterate 12
      apply Qbz ?_ E ?_;rotate_left
      ·(intro w' hSw;(try obtain ⟨q0,q1,q2⟩:=hSw);simp only [Xq];go_simp;try (with_reducible rfl))
      simp only [Xq,Xr]
     refine Qbe 12 ?_;simp only [Xq];go_simp;refine (d8.out _ G.drew).mono ?_;rintro e v ⟨rfl,bT,bU,bm⟩;have ay:=(o.out.trans (.of_below G.drew)).trans bm;refine ⟨.inr ⟨(aM.out.cell ay).trans cW.out,(bw.out.cell ay).trans bx.out,(bz.out.cell ay).trans av⟩,?_⟩;have cJ:=Qa bU;have cm:=Qa ay;have cK:Hid (∀ ap,ap=some (Xa d7 (cH+1)) \/ t.length=0->QbK WB bT v ap t):=Qa λap e=>(dC.out ap e).tells ((QT.of_below G.drew).trans bm);clear bU ay bm E c5 Y c6 G;refine ZP (by kernel_rfl) ?_ _;go_wp2;go_roundw
     ·have M:=aL.out;rw [Qdg (by rw [X];rfl)] at M;refine ⟨k+1,by go_num,aK,_,_,_,rfl,?_,?_,Qa ⟨bT,?_,cm.out,?_⟩⟩
      ·rw [M,X];rfl
      ·rw [aQ] at ai;simp at ai;omega
      ·rw [M];simpa [append_assoc] using cJ.out
      rw [M,X];exact cK.out _ (by first|exact .inl rfl|(right;rw [aQ] at ai;simp at ai;omega))
     simp [intOf];omega
    
    have bN:q.stay.head?≠some p:=by rw [X];simp;exact λe=>ch e.symm
    rcases cj with bp|⟨A,bp,b5⟩
    ·subst bp;have fd:((-1:Int)==(I:Int))=false:=Xd5.2 ch;have J:=ak.out.node a.1 (by have:=a2.out;omega);have a8:=aN.out a.1 (by have:=a2.out;omega);have H:=ak.out.free;have bO:=a8.tag;have bP:=a8.text;have aD:=(H.cell o.out).trans J.c0;have aE:=(H.cell o.out).trans J.c1;have aF:=(H.cell o.out).trans J.c2;have aG:=(H.cell o.out).trans J.c3;have aH:=(H.cell o.out).trans J.c4;have d2:=(a7.out.free.cell o.out).trans a7.out.c0;have d3:=(H.tells o.out).1;have z:=Qa H;have b6:=Qa ar;have ck:0<a.2-a.1:=by have:=a2.out;omega
     clear J a8 H ar aS;have M:=aL.out;rw [Qdi bN rfl] at M;have aj:=Qa M;have b7:Hid (∀ y w' D,QT WB aq y aa w'->Zl B w' WB y (P++q.pats++[⟨1,q.last+1,0,0,(L (s+a.1)).k,(L (s+a.1)).t,⟨#[]⟩,(L (s+a.1)).x⟩]++[⟨2,q.last+1,id,JF x.kids q.stay,0,⟨#[]⟩,⟨#[]⟩,⟨#[]⟩⟩]) (q.last+1)->ZB WB y w' D->w'.heap[D]?=some (.cells #[Xi (q.last+1),Xi (L (s+a.1)).k,.string (L (s+a.1)).t,.string (L (s+a.1)).x,Xv,.pointer none,Xv] 138 (0,0))->Xl 71 #[Xp WB,Xp D,.slice (some (Xa b (l+a.1*5))) (a.2-a.1) (c-a.1)] w' (Qb3 B WB y (P++q.pats++[⟨1,q.last+1,0,0,(L (s+a.1)).k,(L (s+a.1)).t,⟨#[]⟩,(L (s+a.1)).x⟩]++[⟨2,q.last+1,id,JF x.kids q.stay,0,⟨#[]⟩,⟨#[]⟩,⟨#[]⟩⟩]) w' (br (q.last+1) ⟨(L (s+a.1)).k,(L (s+a.1)).t,(L (s+a.1)).x,[],[]⟩ (s+a.1) (a.2-a.1) (q.last+1)))):=Qa λy w' D b8 b9 d4 d5 => Qke bY.out ah aP.out bB bV bt ak.out aN.out a2.out y w' _ _ b8 b9 (by have:=O.out;simp only [length_append,length_cons,length_nil] at this ⊢;omega) (by have:=O.out;omega) (by have:=O.out;omega) D (q.last+1) d4 d5;generalize cC:L (s+a.1)=h at *;generalize az:JF x.kids q.stay=aI at *;have ba:Hid (∀ w1,Xb wr w1->Xl 118 #[Xp WB,Xp N,Xi (-1),.agg #[Xi h.d,.string h.t,Xi h.k,.slice h.ao h.an h.ac,.string h.x]] w1 λe w'=>∃ D y,e=.returned (Xp D)/\w1.heap.size<=D/\ZB WB y w' D/\w'.heap[D]?=some (.cells #[Xi (q.last+1),Xi h.k,.string h.t,.string h.x,Xv,.pointer none,Xv] 138 (0,0))/\Zl B w' WB y (P++q.pats++[⟨1,q.last+1,0,0,h.k,h.t,⟨#[]⟩,h.x⟩]) (q.last+1)/\QT WB al y w1 w'):=Qa λw1 a3 => QjM B WB al (P++q.pats) q.last w1 (bM.out.below a3) (Xb6 ah (Xb6 o.out.touch.size a3.size)) (by have:=O.out;omega) O.out.2.1 (by have:=O.out;omega) N h.d h.k h.t h.x _ bO bP;clear M aL;obtain ⟨fe,cL,bI,bJ⟩:=bK.out I bA;subst cL;have cM:=(bI.cell o.out).trans bJ;have bH:S (x.kids.getD I 0):=bu.out _ (by rw [Xg bA];exact Xa0 _);have b4:=aP.out.node _ bH;have cN:=(b4.free.cell o.out).trans b4.c0;have aX:x.kids.getD I 0=aI:=by rw [<- az,X];rfl
     rw [aX] at cM cN;generalize nb aI=fk at *;clear b4 bH bI bJ;clear az;have aY:=aj;clear aY;go_wp2;go_big_quiet (fail);generalize nq=a0;go_wp2;go_big_quiet (fail);have G:Xb wr ((wr.drewN a0).drewN nq):=Qv (Qv (.refl _ _) a0) nq;have Y:((wr.drewN a0).drewN nq).cell? (Xa R k)=some (Xi (-1)):=bF;have ab:((wr.drewN a0).drewN nq).cell? (Xa b (l+a.1*5))=some (Xi h.d):=aD;have ad:((wr.drewN a0).drewN nq).cell? (Xa b (l+a.1*5+1))=some (.string h.t):=aE;have ae:((wr.drewN a0).drewN nq).cell? (Xa b (l+a.1*5+2))=some (Xi h.k):=aF;have af:((wr.drewN a0).drewN nq).cell? (Xa b (l+a.1*5+3))=some (.slice h.ao h.an h.ac):=aG;have ag:((wr.drewN a0).drewN nq).cell? (Xa b (l+a.1*5+4))=some (.string h.x):=aH;generalize (wr.drewN a0).drewN nq=aw at G Y ab ad ae af ag ⊢;go_wp2_with fail;have E:(λw':World=>Xc w' R k (Xi (-1))/\Xc w' b (l+a.1*5) (Xi h.d)/\Xc w' b (l+a.1*5+1) (.string h.t)/\Xc w' b (l+a.1*5+2) (Xi h.k)/\Xc w' b (l+a.1*5+3) (.slice h.ao h.an h.ac)/\Xc w' b (l+a.1*5+4) (.string h.x)) aw.drew:=⟨Y,ab,ad,ae,af,ag⟩;refine ZU (S:=(λw':World=>w'.cell? (Xa R k)=some (Xi (-1))/\w'.cell? (Xa b (l+a.1*5))=some (Xi h.d)/\w'.cell? (Xa b (l+a.1*5+1))=some (.string h.t)/\w'.cell? (Xa b (l+a.1*5+2))=some (Xi h.k)/\w'.cell? (Xa b (l+a.1*5+3))=some (.slice h.ao h.an h.ac)/\w'.cell? (Xa b (l+a.1*5+4))=some (.string h.x))) (by kernel_rfl) ?_;iterate 9
      apply Qbz ?_ E ?_;rotate_left
      ·(intro w' hSw;(try obtain ⟨q0,q1,q2,q3,aU,aV⟩:=hSw);simp only [Xq];go_simp;try (with_reducible rfl))
      simp only [Xq,Xr]
     refine Qbe 9 ?_;simp only [Xq];go_simp;refine (ba.out _ G.drew).mono ?_;rintro e v ⟨D,cD,rfl,bQ,bR,bb,aA,a4⟩;have u:=(o.out.trans (.of_below G.drew)).trans a4;have E:(λw':World=>Xc w' R k (Xi (-1))/\Xc w' b (l+a.1*5) (Xi h.d)/\Xc w' b (l+a.1*5+1) (.string h.t)/\Xc w' b (l+a.1*5+2) (Xi h.k)/\Xc w' b (l+a.1*5+3) (.slice h.ao h.an h.ac)/\Xc w' b (l+a.1*5+4) (.string h.x)) v:=⟨(bw.out.cell u).trans bx.out,(z.out.cell u).trans ((z.out.cell o.out).symm.trans aD),(z.out.cell u).trans ((z.out.cell o.out).symm.trans aE),(z.out.cell u).trans ((z.out.cell o.out).symm.trans aF),(z.out.cell u).trans ((z.out.cell o.out).symm.trans aG),(z.out.cell u).trans ((z.out.cell o.out).symm.trans aH)⟩;refine ⟨.inr E,?_⟩;refine J9 10 ?_;apply Qbh ?_ E ?_;rotate_left
     ·(intro w' hSw;(try obtain ⟨q0,q1,q2,q3,aU,aV⟩:=hSw);simp only [Xq];go_simp;try (with_reducible rfl))
     simp only [Xq,Xr];refine ZP (by kernel_rfl) ?_ _;have V:=Qj bb 0 (Xi (q.last+1)) rfl;generalize fb:q.last+1=i at *;have aB:=Qa bR;have cE:=Qa bb;have bc:=Qa aA;clear bR bb bQ aA;have W:Xc v N 0 (Xi id):=(aM.out.cell u).trans a7.out.c0;have aZ:=Qa (aM.out.tells u);have aC:=Qa u;have bd:=Qa (b6.out.tells ((QT.of_below G.drew).trans a4));have bf:B<=v.heap.size:=Xb6 ah u.touch.size;clear u a4 E Y ab ad ae af ag G;go_wp2_with fail;have E:(λw':World=>Xc w' D 0 (Xi i)/\Xc w' N 0 (Xi id)) v.drew:=⟨V,W⟩;refine ZU (S:=(λw':World=>w'.cell? (Xa D 0)=some (Xi i)/\w'.cell? (Xa N 0)=some (Xi id))) (by kernel_rfl) ?_;iterate 11
      apply Qbz ?_ E ?_;rotate_left
      ·(intro w' hSw;(try obtain ⟨q0,q1⟩:=hSw);simp only [Xq];go_simp;try (with_reducible rfl))
      simp only [Xq,Xr]
     refine Qbe 11 ?_;simp only [Xq];go_simp;refine ⟨.inr ?_,?_⟩
     ·exact ⟨((((Below.refl v.heap.size v).alloc X0 _).cell (p:=(Xa D 0)) (X6 V))).trans V,((((Below.refl v.heap.size v).alloc X0 _).cell (p:=(Xa N 0)) (X6 W))).trans W⟩
     clear E;refine Qbe 12 ?_;simp only [Xq];go_simp;refine (Qdt B WB cD (P++q.pats++[⟨1,i,0,0,h.k,h.t,⟨#[]⟩,h.x⟩]) i v bc.out bf (by have:=O.out;simp only [length_append,length_cons,length_nil] at this ⊢;omega) 2 i id aI 0 ⟨#[]⟩ ⟨#[]⟩ ⟨#[]⟩ (by decide) (by decide) (by decide)).mono ?_;rintro e bq ⟨rfl,bg,a9,F⟩;refine ⟨.inr ⟨(aB.out.cell F).trans V,(aZ.out.cell F).trans W⟩,?_⟩;have cF:=Qa a9;have cl:=Qa F;have U:=Qa (aC.out.trans F);have bh:=Qa (bd.out.tells F);have bi:=Qa (b7.out bg bq D (aC.out.trans F) a9 (aB.out.tells F) ((aB.out.block F).trans cE.out));clear a9 F V W;refine ZP (by kernel_rfl) ?_ _;go_wp2_with (first|(go_at_call 71;refine (Qb bi).mono ?_;rintro e d6 ⟨rfl,bj,ax,a5⟩;have b0:=Qa ax;have b1:=Qa (U.out.trans a5);have b2:=Qa (bh.out.tells a5);clear ax a5));go_roundw
     ·have a6:=aj.out;refine ⟨k+1,by go_num,aK,_,_,_,rfl,?_,?_,Qa ⟨bj,?_,b1.out,?_⟩⟩
      ·rw [a6];simp [X]
      ·rw [aQ] at ai;exact ai
      ·rw [a6];simpa [append_assoc] using b0.out
      rw [a6];simpa [X] using b2.out
     simp [intOf];omega
    subst bp;have fd:((A:Int)==(I:Int))=false:=Xd5.2 ch;have J:=ak.out.node a.1 (by have:=a2.out;omega);have a8:=aN.out a.1 (by have:=a2.out;omega);have H:=ak.out.free;have bO:=a8.tag;have bP:=a8.text;have aD:=(H.cell o.out).trans J.c0;have aE:=(H.cell o.out).trans J.c1;have aF:=(H.cell o.out).trans J.c2;have aG:=(H.cell o.out).trans J.c3;have aH:=(H.cell o.out).trans J.c4;have d2:=(a7.out.free.cell o.out).trans a7.out.c0;have d3:=(H.tells o.out).1;have z:=Qa H;have b6:=Qa ar;have ck:0<a.2-a.1:=by have:=a2.out;omega
    clear J a8 H ar aS;obtain ⟨a1,rfl,au,av⟩:=bK.out A b5;have bG:Xc wr a1 A (Xp (nb (x.kids.getD A 0))):=(au.cell o.out).trans av;have b3:S (x.kids.getD A 0):=bu.out _ (by rw [Xg b5];exact Xa0 _);have bk:=aP.out.node _ b3;have b7:Hid (∀ y w',QT WB aq y aa w'->Zl B w' WB y (P++q.pats++[⟨2,x.kids.getD A 0,id,JF x.kids q.stay,0,⟨#[]⟩,⟨#[]⟩,⟨#[]⟩⟩]) q.last->Xl 71 #[Xp WB,Xp (nb (x.kids.getD A 0)),.slice (some (Xa b (l+a.1*5))) (a.2-a.1) (c-a.1)] w' (Qb3 B WB y (P++q.pats++[⟨2,x.kids.getD A 0,id,JF x.kids q.stay,0,⟨#[]⟩,⟨#[]⟩,⟨#[]⟩⟩]) w' (br (x.kids.getD A 0) (T (x.kids.getD A 0)) (s+a.1) (a.2-a.1) q.last))):=Qa λy w' b8 b9 => QhM bY.out ah aP.out bB bV bt ak.out aN.out a2.out b3 y w' _ _ b8 b9 (by have:=O.out;simp only [length_append,length_cons,length_nil] at this ⊢;omega) O.out.2.1 (by have:=O.out;omega);have M:=aL.out;rw [QdD bN (by omega)] at M;have aj:=Qa M;have bS:=Qa bk.free;have cG:=Qa bk.c0;have bz:=Qa au;have fc:=Qa av;generalize cC:L (s+a.1)=h at *;rw [Int.toNat_natCast] at aj;generalize T (x.kids.getD A 0)=fi at *;generalize bQ:nb (x.kids.getD A 0)=D at *;generalize x.kids.getD A 0=i at *;generalize az:JF x.kids q.stay=aI at *;have ba:Hid (∀ w1,Xb wr w1->Xl 118 #[Xp WB,Xp N,Xi (A:Int),.agg #[Xi h.d,.string h.t,Xi h.k,.slice h.ao h.an h.ac,.string h.x]] w1 λe w'=>e=.returned (Xp D)/\Xb w1 w'):=Qa λw1 a3 => Qlx WB N x.kids.length aT A a1 D b5 h.d h.k h.t h.x _ w1 ((Xh a3 N 6 dK).trans d1) ((Xh a3 a1 A (bz.out.tells o.out).1).trans bG);clear bk au av M aL;obtain ⟨fe,cL,bI,bJ⟩:=bK.out I bA;cases cL;have cM:=(bI.cell o.out).trans bJ;have bH:S (x.kids.getD I 0):=bu.out _ (by rw [Xg bA];exact Xa0 _);have b4:=aP.out.node _ bH;have cN:=(b4.free.cell o.out).trans b4.c0;have aX:x.kids.getD I 0=aI:=by rw [<- az,X];rfl
    rw [aX] at cM cN;generalize nb aI=fk at *;clear b4 bH bI bJ;clear az;have aY:=aj;clear aY;go_wp2;go_big_quiet (fail);generalize nq=a0;go_wp2;go_big_quiet (fail);have G:Xb wr ((wr.drewN a0).drewN nq):=Qv (Qv (.refl _ _) a0) nq;have Y:((wr.drewN a0).drewN nq).cell? (Xa R k)=some (Xi (A:Int)):=bF;have ab:((wr.drewN a0).drewN nq).cell? (Xa b (l+a.1*5))=some (Xi h.d):=aD;have ad:((wr.drewN a0).drewN nq).cell? (Xa b (l+a.1*5+1))=some (.string h.t):=aE;have ae:((wr.drewN a0).drewN nq).cell? (Xa b (l+a.1*5+2))=some (Xi h.k):=aF;have af:((wr.drewN a0).drewN nq).cell? (Xa b (l+a.1*5+3))=some (.slice h.ao h.an h.ac):=aG;have ag:((wr.drewN a0).drewN nq).cell? (Xa b (l+a.1*5+4))=some (.string h.x):=aH;generalize (wr.drewN a0).drewN nq=aw at G Y ab ad ae af ag ⊢;go_wp2_with fail;have E:(λw':World=>Xc w' R k (Xi (A:Int))/\Xc w' b (l+a.1*5) (Xi h.d)/\Xc w' b (l+a.1*5+1) (.string h.t)/\Xc w' b (l+a.1*5+2) (Xi h.k)/\Xc w' b (l+a.1*5+3) (.slice h.ao h.an h.ac)/\Xc w' b (l+a.1*5+4) (.string h.x)) aw.drew:=⟨Y,ab,ad,ae,af,ag⟩;refine ZU (S:=(λw':World=>w'.cell? (Xa R k)=some (Xi (A:Int))/\w'.cell? (Xa b (l+a.1*5))=some (Xi h.d)/\w'.cell? (Xa b (l+a.1*5+1))=some (.string h.t)/\w'.cell? (Xa b (l+a.1*5+2))=some (Xi h.k)/\w'.cell? (Xa b (l+a.1*5+3))=some (.slice h.ao h.an h.ac)/\w'.cell? (Xa b (l+a.1*5+4))=some (.string h.x))) (by kernel_rfl) ?_;iterate 9
     apply Qbz ?_ E ?_;rotate_left
     ·(intro w' hSw;(try obtain ⟨q0,q1,q2,q3,aU,aV⟩:=hSw);simp only [Xq];go_simp;try (with_reducible rfl))
     simp only [Xq,Xr]
    refine Qbe 9 ?_;simp only [Xq];go_simp;refine (ba.out _ G.drew).mono ?_;rintro e v ⟨rfl,bl⟩;have a4:QT WB al al aw.drew v:=.of_below bl;have u:=(o.out.trans (.of_below G.drew)).trans a4;have aA:=(bM.out.below G.drew).below bl;have E:(λw':World=>Xc w' R k (Xi (A:Int))/\Xc w' b (l+a.1*5) (Xi h.d)/\Xc w' b (l+a.1*5+1) (.string h.t)/\Xc w' b (l+a.1*5+2) (Xi h.k)/\Xc w' b (l+a.1*5+3) (.slice h.ao h.an h.ac)/\Xc w' b (l+a.1*5+4) (.string h.x)) v:=⟨(bw.out.cell u).trans bx.out,(z.out.cell u).trans ((z.out.cell o.out).symm.trans aD),(z.out.cell u).trans ((z.out.cell o.out).symm.trans aE),(z.out.cell u).trans ((z.out.cell o.out).symm.trans aF),(z.out.cell u).trans ((z.out.cell o.out).symm.trans aG),(z.out.cell u).trans ((z.out.cell o.out).symm.trans aH)⟩;refine ⟨.inr E,?_⟩;refine J9 10 ?_;apply Qbh ?_ E ?_;rotate_left
    ·(intro w' hSw;(try obtain ⟨q0,q1,q2,q3,aU,aV⟩:=hSw);simp only [Xq];go_simp;try (with_reducible rfl))
    simp only [Xq,Xr];refine ZP (by kernel_rfl) ?_ _;have V:Xc v D 0 (Xi i):=(bS.out.cell u).trans cG.out;have aB:=Qa (bS.out.tells u);have bc:=Qa aA;clear aA bl;have W:Xc v N 0 (Xi id):=(aM.out.cell u).trans a7.out.c0;have aZ:=Qa (aM.out.tells u);have aC:=Qa u;have bd:=Qa (b6.out.tells ((QT.of_below G.drew).trans a4));have bf:B<=v.heap.size:=Xb6 ah u.touch.size;clear u a4 E Y ab ad ae af ag G;go_wp2_with fail;have E:(λw':World=>Xc w' D 0 (Xi i)/\Xc w' N 0 (Xi id)) v.drew:=⟨V,W⟩;refine ZU (S:=(λw':World=>w'.cell? (Xa D 0)=some (Xi i)/\w'.cell? (Xa N 0)=some (Xi id))) (by kernel_rfl) ?_;iterate 11
     apply Qbz ?_ E ?_;rotate_left
     ·(intro w' hSw;(try obtain ⟨q0,q1⟩:=hSw);simp only [Xq];go_simp;try (with_reducible rfl))
     simp only [Xq,Xr]
    refine Qbe 11 ?_;simp only [Xq];go_simp;refine ⟨.inr ?_,?_⟩
    ·exact ⟨((((Below.refl v.heap.size v).alloc X0 _).cell (p:=(Xa D 0)) (X6 V))).trans V,((((Below.refl v.heap.size v).alloc X0 _).cell (p:=(Xa N 0)) (X6 W))).trans W⟩
    clear E;refine Qbe 12 ?_;simp only [Xq];go_simp;refine (Qdt B WB al (P++q.pats) q.last v bc.out bf (by have:=O.out;simp only [length_append] at this ⊢;omega) 2 i id aI 0 ⟨#[]⟩ ⟨#[]⟩ ⟨#[]⟩ (by decide) (by decide) (by decide)).mono ?_;rintro e bq ⟨rfl,bg,a9,F⟩;refine ⟨.inr ⟨(aB.out.cell F).trans V,(aZ.out.cell F).trans W⟩,?_⟩;have cF:=Qa a9;have cl:=Qa F;have U:=Qa (aC.out.trans F);have bh:=Qa (bd.out.tells F);have bi:=Qa (b7.out bg bq (aC.out.trans F) a9);clear a9 F V W;refine ZP (by kernel_rfl) ?_ _;go_wp2_with (first|(go_at_call 71;refine (Qb bi).mono ?_;rintro e d6 ⟨rfl,bj,ax,a5⟩;have b0:=Qa ax;have b1:=Qa (U.out.trans a5);have b2:=Qa (bh.out.tells a5);clear ax a5));go_roundw
    ·have a6:=aj.out;refine ⟨k+1,by go_num,aK,_,_,_,rfl,?_,?_,Qa ⟨bj,?_,b1.out,?_⟩⟩
     ·rw [a6];simp [X]
     ·rw [aQ] at ai;exact ai
     ·rw [a6];simpa [append_assoc] using b0.out
     rw [a6];simpa [X] using b2.out
    simp [intOf];omega
  go_wp2_with fail;have:m=k:=by omega
  subst this;refine bodyPost_end (results_none rfl _ _ _) rfl ?_;obtain ⟨y,bD,bZ,_⟩:=cZ.out;refine ⟨rfl,y,?_,f5.out.trans bZ⟩;rw [dO.out];exact bD
theorem QlJ {T:Int->NI} {nb:Int->Nat} {S:Int->Prop} {L:Nat->Qd} (d:∀ i,(T i).kids.length<=1000/\(T i).ats.length<=5):∀ f,f<=1000->Qgc T nb S (ZE T L f) L f| 0,_=>λ_ _ _ _ _ _ _ _ _ _ _ _ _ _ _ _ _ _ _ _ K M=>by omega| f+1,hf1=>λB WB pv P last w J k E N id x l g u b r s n c h F o v p j O y z=>by refine QuQ B WB pv P last w J k (by omega) nb N id x l g b r n c (λi=>L (s+i)) h o v p j (Qad (ZE T L f) T L id x s n last) ?_;intro A w1 q m G C H a t I D;have R:=Qh1 id x (L (s+0));have U:=Qfw id (QP x.ats) (L (s+0)).nm (L (s+0)).an x.ats.length;have V:=Qhk id (QP x.ats) (Q6 x.ats) x.ats.length (L (s+0)).nm (L (s+0)).vl (L (s+0)).an;have W:=(j 0 h).an;have X:=g.few;refine Qsd T nb S (ZE T L f) L f (QlJ d f (by omega)) (QfG d f) d B WB A _ last w1 H (Xb6 k a.touch.size) (E.tells a) N id x (l.tells a) g u b r s n c h F o (by omega) (p.tells a) j ?_ y z C q m G t I D;simp only [JR,length_append];omega
def Qc (R:List RN) (i:Int):NI:=match R.find? (λn=>n.id==i) with
 | some n=>⟨n.key,n.tag,n.text,n.ats,Qf R i⟩
 | none=>⟨0,⟨#[]⟩,⟨#[]⟩,[],[]⟩
theorem JC (b:Qx R) {n:RN} (d:n ∈ R):Qc R n.id=⟨n.key,n.tag,n.text,n.ats,Qf R n.id⟩:=by
 unfold Qc;have:R.find? (λm=>m.id==n.id)=some n:=by obtain ⟨k,a,e⟩:=Xa3 d;rw [find?_eq_some_iff_getElem];refine ⟨by simp,k,a,e,λj f=>?_⟩;simp only [Bool.not_eq_true',beq_eq_false_iff_ne,ne_eq];intro c;have:=b.inj j k (by omega) a (by rw [c,e]);omega
 rw [this]
theorem QkR (c:R.length<=800) (a:∀ n,n ∈ R->n.ats.length<=5) (i:Int):(Qc R i).kids.length<=1000/\(Qc R i).ats.length<=5:=by
 unfold Qc;split
 ·next n b =>
  refine ⟨?_,a n (mem_of_find?_eq_some b)⟩;show (Qf R i).length<=1000;unfold Qf;rw [length_map];have:=length_filter_le (λn:RN=>n.par==i) R;omega
 exact ⟨X3,X3⟩
def QgW (R:List RN):Prop:=∀ n,n ∈ R->Qu n.key
theorem QuB (f:Ql ρ nb mb rt w q R last) (l:Qx R) (v:Zw R) (x:QgW R) (u:ρ WB=none):Qb5 WB Xv w nb (λi=>∃ n,n ∈ R/\n.id=i) (Qc R) where
 node:=by
  rintro i ⟨n,d,rfl⟩
  obtain ⟨y,z,a⟩:=f.node n d
  have h:∀ b j,ρ b=some (n.id,j)->ZB WB Xv w b:=λb j e=>⟨f.low b (by rw [e];rfl),(λo=>by rw [o,u] at e;cases e),(λo=>by cases o)⟩
  rw [JC l d]
  obtain ⟨ao,ac,rfl⟩:=Qy a.arow
  obtain ⟨A,B,rfl⟩:=Qy a.krow
  refine ⟨h _ 0 a.role,Qj a.blk 0 _ rfl,Qj a.blk 1 _ rfl,Qj a.blk 2 _ rfl,Qj a.blk 3 _ rfl,⟨ao,ac,Qj a.blk 4 _ rfl,⟨λj c=>?_,λL b P e=>?_⟩⟩,⟨A,B,Qj a.blk 6 _ rfl,λj c=>?_⟩⟩
  ·rcases a.arow.2 with ⟨e,M⟩|⟨g,J,K,e,N,r,_⟩
   ·simp only at c;omega
   ·simp at e
    obtain ⟨rfl,rfl⟩:=e
    have p:(QP n.ats j,Q6 n.ats j) ∈ n.ats:=by
     simp only at c
     simp only [QP,Q6]
     rw [Xg c]
     exact Xa0 _
    have s:=a.size _ p
    have C:=a.arow.cellAt (j*2) (by simp only at c;omega)
    have D:=a.arow.cellAt (j*2+1) (by simp only at c;omega)
    have E:=QfV n.ats j 0 c (by omega)
    have F:=QfV n.ats j 1 c (by omega)
    refine ⟨g,0,rfl,(Xd0.1 r).1,?_,?_,s.1,s.2⟩
    ·rw [Nat.zero_add,C];exact E
    ·rw [Nat.zero_add,D];exact F
  ·refine h b 1 (a.arole b ?_)
   rw [e];rfl
  ·obtain ⟨g,O,e,r,G⟩:=Qhm a.krow (j:=j) c
   refine ⟨g,e,h g 2 (a.krole g (by rw [e];rfl)),?_⟩
   rw [G]
   simp only [Jw,getElem_map]
   rw [Xg c]
   rfl
 kids:=by
  rintro i ⟨n,d,rfl⟩ k t
  rw [JC l d] at t
  obtain ⟨m,H,_,I⟩:=Qbb.1 t
  exact ⟨m,H,I⟩
 ok:=by
  rintro i ⟨n,d,rfl⟩
  obtain ⟨y,z,a⟩:=f.node n d
  rw [JC l d]
  refine ⟨a.few,λj c=>?_,a.tag,x n d,?_⟩
  ·have p:(QP n.ats j,Q6 n.ats j) ∈ n.ats:=by
    simp only at c
    simp only [QP,Q6]
    rw [Xg c]
    exact Xa0 _
   have:=Qd0 (v n d _ p).1
   simp only at this ⊢
   omega
  ·have:=f.few
   show (Qf R n.id).length<=1000
   unfold Qf
   rw [length_map]
   have:=length_filter_le (λm:RN=>m.par==n.id) R
   omega
theorem Qq7 (a:Qac w b o n L) (h:b≠WB) (j:∀ i,i<n->0<(L i).an->∀ g p,(L i).ao=some (Xa g p)->g≠WB):Qbj WB Xv w b o n (λi=>L (0+i)):=by
 have e:(λi=>L (0+i))=L:=funext λi=>by rw [Nat.zero_add]
 rw [e];refine ⟨⟨a.lt,h,λe=>by cases e⟩,a.node,λi c=>⟨(a.node i c).ok.at',λd g p e=>⟨?_,j i c d g p e,λe=>by cases e⟩⟩⟩;obtain ⟨l,m,f,k,_⟩:=(a.node i c).ok.at' 0 d;rw [e] at f;cases f;exact k
theorem QoS (b:∀ i,i<n->QF L i=true) (f:∀ i,i<n->Qu (L i).k):∀ i,i<n->(L (0+i)).Small:=λi a=>by rw [Nat.zero_add];have c:=QaW (Qbf (b i a));have h:=Qgq (Qbf (b i a));have l:=Qg8 (b i a);refine ⟨c.1,λj g=>?_,by omega,by omega,f i a,by omega⟩;have d:=QeO (c.2 j g).1;have m:=Qd0 d.1;have o:=QfD d.2.1;exact ⟨by omega,by omega⟩
def ZG (R:List RN) (L:Nat->Qd) (n:Nat):Int × Int :=
 if (Zk (QF L) n).1=0 then
  if ((L 0).t.toList==(Qc R 1).tag.toList)&&((L 0).k==(Qc R 1).key) then
   if 800<R.length+n then (1,0) else (0,0)
  else (3,0)
 else Zk (QF L) n
def QcG (R:List RN) (last:Int) (L:Nat->Qd) (n:Nat):List Qh:=(ZE (Qc R) L n 1 (Qc R 1) 0 n last).1
def QeG (w:World) (P:List Qh) (b a:Int) (e:Ending) (w':World):Prop:=∃ v,e=.returned (.tuple #[v,Xi b,Xi a])/\w'.ownsRow w.heap.size 29 8 v P.length (Qa2 P)/\Xb w w'
theorem Qpt (q:Nat) (ao:Option Addr) (n c:Nat) (w:World) (a b:Int) (g:(a !=0)=true) (f:Hid (Xl 42 #[.slice ao n c] w λe w'=>e=.returned (.tuple #[Xi a,Xi b])/\Xb w w')) : Xl 59 #[Xp q,.slice ao n c] w (QeG w [] a b):=by go_enter Tryz.func59,Tryz.ntmps59;go_wp2_with (first|(go_at_call 42;refine (Qb f).mono ?_;rintro e w1 ⟨rfl,d⟩));refine bodyPost_ret (results_tmp3 rfl _ _ _) rfl ?_;exact ⟨_,rfl,Xc0 _ _ _ _,d⟩
theorem Qqm (q f:Nat) (b d n c:Nat) (w:World) (v:0<n) (h g:ByteArray) (o m:Int) (i:Xc w b (d+1) (.string h)) (p:Xc w b (d+2) (Xi o)) (q0:Xc w q 0 (Xp f)) (j:Xc w f 1 (Xi m)) (r:Xc w f 2 (.string g)) (u:(h.toList==g.toList)=false) (s:Hid (Xl 42 #[.slice (some (Xa b d)) n c] w λe w'=>e=.returned (.tuple #[Xi 0,Xi 0])/\Xb w w')) : Xl 59 #[Xp q,.slice (some (Xa b d)) n c] w (QeG w [] 3 0):=by have k:=X6 i;have t:=X6 q0;have l:=X6 j;go_enter Tryz.func59,Tryz.ntmps59;go_wp2_with (first|(go_at_call 42;refine (Qb s).mono ?_;rintro e w1 ⟨rfl,a⟩;have x:=(Xh a b (d+1) k).trans i;have y:=(Xh a b (d+2) k).trans p;have z:=(Xh a q 0 t).trans q0;have A:=(Xh a f 1 l).trans j;have B:=(Xh a f 2 l).trans r));go_big_quiet (fail);go_wp2;refine bodyPost_ret (results_tmp3 rfl _ _ _) rfl ?_;exact ⟨_,rfl,Xc0 _ _ _ _,Qv a _⟩
theorem Qun (q f:Nat) (b d n c:Nat) (w:World) (x:0<n) (i g:ByteArray) (j h:Int) (k:Xc w b (d+1) (.string i)) (p:Xc w b (d+2) (Xi j)) (q0:Xc w q 0 (Xp f)) (l:Xc w f 1 (Xi h)) (r:Xc w f 2 (.string g)) (u:(i.toList==g.toList)=true) (v:(j==h)=false) (s:Hid (Xl 42 #[.slice (some (Xa b d)) n c] w λe w'=>e=.returned (.tuple #[Xi 0,Xi 0])/\Xb w w')) : Xl 59 #[Xp q,.slice (some (Xa b d)) n c] w (QeG w [] 3 0):=by have m:=X6 k;have t:=X6 q0;have o:=X6 l;go_enter Tryz.func59,Tryz.ntmps59;go_wp2_with (first|(go_at_call 42;refine (Qb s).mono ?_;rintro e w1 ⟨rfl,a⟩;have y:=(Xh a b (d+1) m).trans k;have z:=(Xh a b (d+2) m).trans p;have A:=(Xh a q 0 t).trans q0;have B:=(Xh a f 1 o).trans l;have C:=(Xh a f 2 o).trans r));go_big_quiet (fail);go_wp2;refine bodyPost_ret (results_tmp3 rfl _ _ _) rfl ?_;exact ⟨_,rfl,Xc0 _ _ _ _,Qv a _⟩
theorem Qrg (q f k:Nat) (b d n c:Nat) (w:World) (F:0<n) (l i:ByteArray) (m j:Int) (o:Xc w b (d+1) (.string l)) (v:Xc w b (d+2) (Xi m)) (q0:Xc w q 0 (Xp f)) (p:Xc w f 1 (Xi j)) (x:Xc w f 2 (.string i)) (B:(l.toList==i.toList)=true) (N:Nat) (C:n<=400) (q1:Xc w q 1 (.map (some k))) (h:∀ w',Xb w w'->∀ ty,(Builtin.len_ #[111] ty #[.map (some k)]).run Tryz.prog w'=.ok (Xi N) w') (u:m=j) (A:800<N+n) (y:Hid (Xl 42 #[.slice (some (Xa b d)) n c] w λe w'=>e=.returned (.tuple #[Xi 0,Xi 0])/\Xb w w')) : Xl 59 #[Xp q,.slice (some (Xa b d)) n c] w (QeG w [] 1 0):=by
 subst u;have z:=Qa h;clear h;have r:=X6 o;have s:=X6 q0;have t:=X6 p;go_enter Tryz.func59,Tryz.ntmps59;go_wp2_with (first|(go_at_call 42;refine (Qb y).mono ?_;rintro e w1 ⟨rfl,a⟩;have G:=(Xh a b (d+1) r).trans o;have H:=(Xh a b (d+2) r).trans v;have I:=(Xh a q 0 s).trans q0;have J:=(Xh a f 1 t).trans p;have K:=(Xh a f 2 t).trans x));go_big_quiet (fail);have g:=Qv a nq;generalize w1.drewN nq=w2 at g ⊢;have L:=(Xh g q 1 s).trans q1;have D:=z.out _ g;have E:(800:Int)-n<N:=by omega
 go_wp2;refine bodyPost_ret (results_tmp3 rfl _ _ _) rfl ?_;exact ⟨_,rfl,Xc0 _ _ _ _,g⟩
theorem Quw (q h x:Nat) (b d n c:Nat) (w:World) (ab:0<n) (y s:ByteArray) (z t:Int) (A:Xc w b (d+1) (.string y)) (M:Xc w b (d+2) (Xi z)) (q0:Xc w q 0 (Xp h)) (B:Xc w h 1 (Xi t)) (O:Xc w h 2 (.string s)) (a5:(y.toList==s.toList)=true) (N:Nat) (a6:n<=400) (q1:Xc w q 1 (.map (some x))) (p:∀ w',Xb w w'->∀ ty,(Builtin.len_ #[111] ty #[.map (some x)]).run Tryz.prog w'=.ok (Xi N) w') (E:z=t) (a4:N+n<=800) (last:Int) (q2:Xc w q 2 (Xi last)) (r:List Qh × Int) (P:Hid (Xl 42 #[.slice (some (Xa b d)) n c] w λe w'=>e=.returned (.tuple #[Xi 0,Xi 0])/\Xb w w')) (R:Hid (∀ w2 w3,Xb w w2->Xb w2 w3->w3.heap[w2.heap.size]?=some (.cells #[Xv,Xi last] 147 (0,0))->Xl 71 #[Xp w2.heap.size,Xp h,.slice (some (Xa b d)) n c] w3 (Qb3 w2.heap.size w2.heap.size Xv [] w3 r))) : Xl 59 #[Xp q,.slice (some (Xa b d)) n c] w (QeG w r.1 0 0):=by
 subst E;have S:=Qa p;clear p;have C:=X6 A;have i:=X6 q0;have D:=X6 B;go_enter Tryz.func59,Tryz.ntmps59;go_wp2_with (first|(go_at_call 42;refine (Qb P).mono ?_;rintro e w1 ⟨rfl,f⟩;have T:=(Xh f b (d+1) C).trans A;have U:=(Xh f b (d+2) C).trans M;have V:=(Xh f q 0 i).trans q0;have W:=(Xh f h 1 D).trans B;have X:=(Xh f h 2 D).trans O));go_big_quiet (fail);have a:=Qv f nq;generalize w1.drewN nq=w2 at a ⊢;have ac:=(Xh a q 1 i).trans q1;have a7:=S.out _ a;have a8:¬ (800:Int)-n<N:=by omega
 have ad:=(Xh a q 2 i).trans q2;have ae:=(Xh a q 0 i).trans q0;have a9:q<w2.heap.size:=Xb4 i a.size;have m:Xb w2 (w2.alloc (.cells #[Xv,Xi last] 147)):=Xd;have F:=Qa (R.out w2 _ a m (by show (w2.heap.push _)[w2.heap.size]?=_;simp));have u:=Qa m;have o:=Qa a;clear V W X T U m;go_wp2_with (first|(go_at_call 71;refine (Qb F).mono ?_;rintro e w4 ⟨rfl,aa,k,v⟩;have af:=k.c0;have ag:=k.lt;have G:=Qa k;have H:=Qa v;clear k v));refine bodyPost_ret (results_tmp3 rfl _ _ _) rfl ?_;have I:w2.heap.size<=(w2.alloc (.cells #[Xv,Xi last] 147)).heap.size:=u.out.size;have J:Xb w2 w4:=by
  have j:=H.out.touch;refine u.out.trans ⟨j.os,j.tape,j.output,j.size,λb Y=>j.block b (Xb4 Y I) ?_⟩;rintro (e|e)
  ·omega
  cases e
 refine ⟨_,rfl,?_,o.out.trans (J.mono o.out.size)⟩;have l:=G.out.row;rw [nil_append] at l;refine ⟨l.1,l.2.imp (λa3=>a3) λ⟨g,K,L,a0,a1,a2⟩=>⟨g,K,L,a0,Xb6 o.out.size a1,a2⟩⟩
theorem QiR {f:Nat->Bool} (a:(Zk f n).1=0):Zk f n=(0,0)/\0<n/\n<=400/\∀ i,i<n->f i=true:=by
 unfold Zk at a ⊢;by_cases b:n<1 \/ 400<n
 ·rw [if_pos b] at a;cases a
 rw [if_neg b] at a ⊢;unfold QbZ at a ⊢;cases c:(List.range n).find? (λi=>!f i) with| some i=>rw [c] at a;cases a| none =>refine ⟨rfl,by omega,by omega,λi d=>?_⟩;have:=find?_eq_none.1 c i (Xa6.2 d);simpa using this
theorem QrA (f:Ql ρ nb mb (some (nb 1)) w q R last) (b:Qw R last) : w.cell? (Xa q 0)=some (Xp (nb 1))/\w.cell? (Xa (nb 1) 1)=some (Xi (Qc R 1).key)/\w.cell? (Xa (nb 1) 2)=some (.string (Qc R 1).tag):=by obtain ⟨n,d,g,_⟩:=b.root;obtain ⟨i,j,h⟩:=f.node n d;have c:=JC b.ids d;have a:=h.blk;rw [g] at c a;rw [c];exact ⟨Qj f.blk 0 _ rfl,Qj a 1 _ rfl,Qj a 2 _ rfl⟩
theorem QuT G (nb:Int->Nat) j w q R last (d:Ql G nb j (some (nb 1)) w q R last) (A:Qw R last) (X:Zw R) (Y:QgW R) (aa:last+400<=4611686018427387904) ao (n c:Nat) L (a0:n<=maxLen) (a1:n<=c) (N:Jp w ao n L) (a2:∀ i,i<n->Qu (L i).k) : Xl 59 #[Xp q,.slice ao n c] w (QeG w (if (ZG R L n).1=0 then QcG R last L n else []) (ZG R L n).1 (ZG R L n).2):=by
 have l:=QhS ao n c L w a0 N;by_cases u:(Zk (QF L) n).1=0
 ·obtain ⟨a3,h,J,P⟩:=QiR u;rw [a3] at l;obtain ⟨b,z,rfl,B⟩:=N h;obtain ⟨q0,C,D⟩:=QrA d A;have a:=B.node 0 h;rw [Nat.zero_mul,Nat.add_zero] at a;have o:ZG R L n=if ((L 0).t.toList==(Qc R 1).tag.toList)&&((L 0).k==(Qc R 1).key) then if 800<R.length+n then (1,0) else (0,0) else (3,0):=by unfold ZG;rw [if_pos u]
  cases f:((L 0).t.toList==(Qc R 1).tag.toList) with
  | false =>rw [o,f];exact Qqm q (nb 1) b z n c w h _ _ _ _ a.c1 a.c2 q0 C D f (Qa l)
  | true =>
   cases x:((L 0).k==(Qc R 1).key) with
   | false =>rw [o,f,x];exact Qun q (nb 1) b z n c w h _ _ _ _ a.c1 a.c2 q0 C D f x (Qa l)
   | true =>
    have K:(L 0).k=(Qc R 1).key:=by simpa using x
    have q1:=Qj d.blk 1 (.map (some j)) rfl;have q2:=Qj d.blk 2 (Xi last) rfl;have H:∀ w',Xb w w'->∀ ty,(Builtin.len_ #[111] ty #[.map (some j)]).run Tryz.prog w'=.ok (Xi R.length) w':=λw' a4 ty=>(d.map.heap (a4.block j d.map.lt)).len ty;by_cases y:800<R.length+n
    ·rw [o,f,x,if_pos y];exact Qrg q (nb 1) j b z n c w h _ _ _ _ a.c1 a.c2 q0 C D f R.length J q1 H K y (Qa l)
    rw [o,f,x,if_neg y];refine Quw q (nb 1) j b z n c w h _ _ _ _ a.c1 a.c2 q0 C D f R.length J q1 H K (by omega) last q2 (ZE (Qc R) L n 1 (Qc R 1) 0 n last) (Qa l) (Qa λw2 w3 s T r=>?_);have M:Xb w w3:=s.trans (T.mono s.size);have S:=d.below M;have U:G w2.heap.size=none:=by cases e:G w2.heap.size with| none=>rfl| some v=>have:=d.low w2.heap.size (by rw [e];rfl);have:=s.size;omega
    have I:w2.heap.size<w3.heap.size:=Q9 r;obtain ⟨a5,V,a6,_⟩:=A.root;have E:=QuB S A.ids X Y U;have F:∃ m,m ∈ R/\m.id=1:=⟨a5,V,a6⟩;have W:=B.below M;refine QlJ (L:=L) (QkR d.few λm y=>?_) n (by omega) w2.heap.size w2.heap.size Xv [] last w3 ⟨Qj r 0 _ rfl,Qax r 0,Qj r 1 _ rfl,Qax r 1,Xc0 _ _ _ _,(λb e=>by cases e),I⟩ (Xc7 I) E (nb 1) 1 (Qc R 1) (E.node 1 F) (E.ok 1 F) (E.kids 1 F) b z 0 n c h X0 a1 (by omega) (Qq7 W ?_ ?_) (QoS P a2) ?_ ?_ ?_
    ·obtain ⟨ac,ad,a7⟩:=d.node m y;exact a7.few
    ·have:=B.lt;have:=s.size;omega
    ·intro i a8 a9 g p e;obtain ⟨ae,af,O,ab,_⟩:=(B.node i a8).ok.at' 0 a9;rw [e] at O;cases O;have:=s.size;omega
    ·simp;omega
    ·have:=A.last_pos;omega
    omega
 have o:ZG R L n=Zk (QF L) n:=by unfold ZG;rw [if_neg u]
 rw [o,if_neg u];exact Qpt q ao n c w _ _ (by simpa using u) (Qa l)
theorem QrC (b q:Nat) (w:World) (ao:Option Addr) (n c:Nat) (d:Value->Int->Int->World->Prop) (h:Xc w b 0 (Xp q)) (f:Hid (Xl 59 #[Xp q,.slice ao n c] w λe w'=>∃ v x a,e=.returned (.tuple #[v,Xi x,Xi a])/\d v x a w')) : Xl 38 #[Xp b,.slice ao n c] w λe w'=>∃ v x a,e=.returned (.tuple #[v,Xi x,Xi a])/\d v x a w':=by go_enter Tryz.func38,Tryz.ntmps38;go_wp2_with (first|(go_at_call 59;refine (Qb f).mono ?_;rintro e w2 ⟨v,x,a,rfl,g⟩));refine bodyPost_ret (results_tmp3 rfl _ _ _) rfl ?_;exact ⟨v,x,a,rfl,g⟩
end Go.Proofs.YtobgcaemnpkbmaaGreat
