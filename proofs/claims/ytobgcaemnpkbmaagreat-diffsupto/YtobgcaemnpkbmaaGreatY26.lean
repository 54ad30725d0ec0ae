import Derived.Test.YtobgcaemnpkbmaaGreatY25
namespace Go.Proofs.YtobgcaemnpkbmaaGreat
set_option maxRecDepth 100000
set_option maxHeartbeats 8000000
open Go.RowKit List
variable {R:List RN}
theorem QpR S p R last v (b H N c:Nat) L B (ad:Qq S B p R last v) (bs:Qac B b H N L) (o f l s n:Nat) (V:l<R.length) (aQ:Qx R) (bt:∀ i,(Qc R i).kids.length<=800/\(Qc R i).ats.length<=5) (dP:N<=800) (d0:∀ i,i<N->QF L i=true) (af:Jd L s n) (b0:QcX L N s n) (fF:0<=(L s).d/\(L s).d<=1000) (dQ:∀ dR cB n',dR<R.length->n'<n->Jd L cB n'->QcX L N cB n'->Qgr B p R b H N c L o f dR cB n'):Qgr B p R b H N c L o (f+1) l s n:=by
 intro K F A G I w cC b1 dS h9 ha cD;have dg:=b0.1;have fh:=b0.2;rw [QV V];obtain ⟨bu,bc,bd,bf,bg⟩:=info_parts QbF;obtain ⟨dT,dh,di,dj,dk⟩:=info_parts QtL;have gI:=ad.few;have b2:=ad.lt;obtain ⟨g,a3,rfl,gT,a4,gU,gV,ae⟩:=ad.at (by omega);have fi:=af.pos;have dU:s<N:=by omega
 have d1:Hid (∀ h,Xb B h->Qq S h p R last (.slice (some (Xa g 0)) R.length a3)):=Qa λh D=>ad.below D;have b6:Hid (∀ h,Xb B h->Qac h b H N L):=Qa λh D=>bs.below D;have bJ:Hid (∀ h,Xb B h->Xc h p 0 (.slice (some (Xa g 0)) R.length a3)/\Xc h g (l*6) (Xi R[l].id)/\p<h.heap.size/\g<h.heap.size):=Qa λh D=>⟨(Xh D p _ b2).trans ad.c0,(Xh D g _ a4).trans (ae l 0 V (by omega)),Xb4 b2 D.size,Xb4 a4 D.size⟩;have c8:Hid (∀ h,Xb B h->Xc h p 0 (.slice (some (Xa g 0)) R.length a3)/\Xc h g (l*6) (Xi R[l].id)/\Xc h g (l*6+1) (Xi R[l].par)/\Xc h g (l*6+2) (.string R[l].tag)/\Xc h g (l*6+3) (Xi R[l].key)/\Xc h g (l*6+4) (.slice R[l].ao R[l].an R[l].ac)/\Xc h g (l*6+5) (.string R[l].text)/\Xc h b (H+s*5) (Xi (L s).d)/\Xc h b (H+s*5+1) (.string (L s).t)/\Xc h b (H+s*5+2) (Xi (L s).k)/\Xc h b (H+s*5+3) (.slice (L s).ao (L s).an (L s).ac)/\Xc h b (H+s*5+4) (.string (L s).x)):=Qa λh D=>by have aj:=(b6.out h D).node s dU;exact ⟨(Xh D p _ b2).trans ad.c0,(Xh D g _ a4).trans (ae l 0 V (by omega)),(Xh D g _ a4).trans (ae l 1 V (by omega)),(Xh D g _ a4).trans (ae l 2 V (by omega)),(Xh D g _ a4).trans (ae l 3 V (by omega)),(Xh D g _ a4).trans (ae l 4 V (by omega)),(Xh D g _ a4).trans (ae l 5 V (by omega)),aj.c0,aj.c1,aj.c2,aj.c3,aj.c4⟩
 have a9:R[l].Ok S B:=ad.node _ (Xa0 V);have aj:(L s).Ok B:=(bs.node s dU).ok;have ch:(L s).an<=5:=(QaW (af.node 0 (by omega))).1;have cQ:Hid (∀ o K F A G I w,Xb B w->Zv w o K F A G I->(∀ x,ZY o G I x->B.heap.size<=x)->(∀ j,K j<=1000000)->Xl 72 #[Xp o,.agg #[Xi R[l].id,Xi R[l].par,.string R[l].tag,Xi R[l].key,.slice R[l].ao R[l].an R[l].ac,.string R[l].text],.agg #[Xi (L s).d,.string (L s).t,Xi (L s).k,.slice (L s).ao (L s).an (L s).ac,.string (L s).x]] w λe w'=>e=.returned (.tuple #[])/\Zv w' o (λj=>K j+Qa4 (Qc R R[l].id) (L s) (j:Int)) F A G I/\Q7 o G I w G I w'):=Qa λo K F A G I w q1 q2 q3 bv=>by rw [JC aQ (getElem_mem V)];exact Qpw S B R[l] a9 (L s) aj ch _ o K F A G I w q1 q2 q3 bv
 have gW:Hid (Qc R R[l].id=⟨R[l].key,R[l].tag,R[l].text,R[l].ats,Qf R R[l].id⟩):=Qa (JC aQ (Xa0 V));have d2:Hid (R[l].id≠0):=Qa <| by have:=aQ.pos _ (Xa0 V);omega
 have d3:Hid (∀ h,Xb B h->∀ i,i<R.length->h.cell? (Xa p 0)=some (.slice (some (Xa g 0)) R.length a3)/\h.cell? (Xa g (i*6+2))=some (.string (QcK R i))/\h.cell? (Xa g (i*6+3))=some (Xi (QcB R i))/\p<h.heap.size/\g<h.heap.size):=Qa λh D i aa=>⟨(Xh D p _ b2).trans ad.c0,by rw [QmA aa];exact (Xh D g _ a4).trans (ae i 2 aa (by omega)),by rw [QmI aa];exact (Xh D g _ a4).trans (ae i 3 aa (by omega)),Xb4 b2 D.size,Xb4 a4 D.size⟩;have d4:Hid (∀ h,Xb B h->∀ i,i<N->Xc h b (H+i*5+1) (.string (L i).t)/\Xc h b (H+i*5+2) (Xi (L i).k)/\b<h.heap.size):=Qa λh D i aa=>⟨((b6.out h D).node i aa).c1,((b6.out h D).node i aa).c2,(b6.out h D).lt⟩;have dl:Hid (p<B.heap.size/\g<B.heap.size/\b<B.heap.size):=Qa ⟨b2,a4,bs.lt⟩;have bD:Hid (∀ k,k<(Qe L s n).length->(QE (Qc R) L (Qc R R[l].id).kids s (Qe L s n)).getD k 0=-1->∀ (K:Nat->Nat) (F A:List Int) (G I:Value) (w:World),Xb B w->Zv w o (Je R L f R[l].id s n K k) (Qak R L f R[l].id s n F k) (Qal R L f R[l].id s n A k) G I->(∀ x,ZY o G I x->B.heap.size<=x)->(∀ j,K j+1000*(n-1)<=1000000)->Xl 75 #[Xp o,.slice (some (Xa b H)) N c,Xi ((s+((Qe L s n).getD k (0,0)).1:Nat):Int)] w λe w'=>e=.returned (.tuple #[])/\Zv w' o (Je R L f R[l].id s n K (k+1)) (Qak R L f R[l].id s n F (k+1)) (Qal R L f R[l].id s n A (k+1)) G I/\Q7 o G I w G I w'):=Qa λk W aj K F A G I w q1 q2 q3 bv=>QqE bt bs dP af b0 f R[l].id W aj q1 q2 q3 bv;have bE:Hid (∀ k,k<(Qe L s n).length->∀ q:Nat,(QE (Qc R) L (Qc R R[l].id).kids s (Qe L s n)).getD k 0=(q:Int)->∀ a,a<R.length->Qg R a=(Qc R R[l].id).kids.getD q 0->∀ (K:Nat->Nat) (F A:List Int) (G I:Value) (w:World),Xb B w->Zv w o (Je R L f R[l].id s n K k) (Qak R L f R[l].id s n F k) (Qal R L f R[l].id s n A k) G I->(∀ x,ZY o G I x->B.heap.size<=x)->F.length+(n-1)<=100000->A.length+(n-1)<=100000->(∀ j,K j+1000*(n-1)<=1000000)->Xl 60 #[Xp o,Xp p,Xi (a:Int),.slice (some (Xa b H)) N c,Xi ((s+((Qe L s n).getD k (0,0)).1:Nat):Int)] w λe w'=>e=.returned (.tuple #[])/\∃ ap av',Zv w' o (Je R L f R[l].id s n K (k+1)) (Qak R L f R[l].id s n F (k+1)) (Qal R L f R[l].id s n A (k+1)) ap av'/\Q7 o G I w ap av' w'):=Qa λk W q J a fG bL K F A G I w q1 q2 q3 bv ga gb=>by obtain ⟨cE,dV,_⟩:=af.part (QcZ W);refine Qod bt dP af b0 f R[l].id W (by rw [J];omega) (by rw [J];exact bL) (dQ a _ _ fG (by omega) cE (QcX.part af b0 (QcZ W))) q1 q2 q3 bv ga gb
 have cR:Hid (∀ k,k<(Qe L s n).length->J0 (QcW ((Qn R R[l].id).map (QcK R)) ((Qn R R[l].id).map (QcB R))) (QcW ((Jr L s (n-1)).map λi=>(L i).t) ((Jr L s (n-1)).map λi=>(L i).k)) k (Qn R R[l].id).length=(QE (Qc R) L (Qc R R[l].id).kids s (Qe L s n)).getD k 0):=Qa λk W=>by rw [JC aQ (getElem_mem V)];exact Qtm aQ d0 af dg d2.out W
 have bK:Hid ((Qn R R[l].id).map (Qg R)=(Qc R R[l].id).kids):=Qa <| by rw [JC aQ (getElem_mem V)];exact Qcm R d2.out
 have fj:Hid (∀ j:Nat,Qa4 (Qc R R[l].id) (L s) (j:Int)<=10):=Qa λj=>Qka (bt _).2 ch _;have fk:Hid (∀ j:Nat,QaI (Qc R) L (f+1) R[l].id s n (j:Int)<=1000*n):=Qa (QfA bt (f+1) R[l].id s n (by omega) af).1;have aF:=Qa (QmZ (Qc R) L (Qc R R[l].id).kids s (Qe L s n));have d5:Hid (Jr L s (n-1)=(Qe L s n).map λa=>s+a.1):=Qa (Qnz af);have c9:=Qa (QnJ R L f R[l].id s n);have bF:=Qa (Qtb R L f R[l].id s n);clear a9 aj ch bs bt d0 b0 dQ;obtain ⟨dW,dX,gc,gd⟩:=bJ.out _ cC;obtain ⟨c0,ac,rfl⟩:=Qy b1.arow;have dY:=Qa b1;have aL:=Qa dS;have bw:=Qa cC;have dZ:Xc w o 7 G:=b1.cnt.cell (i:=7) (by omega);have f0:=b1.cnt.frozen 7;have fH:=b1.lt.1;have hb:(0:Int)<=(l:Int):=by omega
 have hc:(l:Int)<(R.length:Int):=by omega
 generalize R[l].id=id at *;generalize R[l].par=fl at *;generalize R[l].tag=fm at *;generalize R[l].key=fn at *;generalize R[l].text=fg at *;generalize R[l].ao=fI at *;generalize R[l].an=fJ at *;generalize R[l].ac=fK at *;generalize R[l].ats=gJ at *;clear ad ae b1 dS cC;go_enter Tryz.func60,Tryz.ntmps60;have O:(λw':World=>Xf w' o 7/\Xc w' o 7 G/\Xc w' p 0 (.slice (some (Xa g 0)) R.length a3)/\Xc w' g (l*6) (Xi id)) w.drew:=⟨f0,dZ,dW,dX⟩;go_wp2_with fail;refine ZU (S:=(λw':World=>w'.frozen? (Xa o 7)=false/\w'.cell? (Xa o 7)=some G/\w'.cell? (Xa p 0)=some (.slice (some (Xa g 0)) R.length a3)/\w'.cell? (Xa g (l*6))=some (Xi id))) (by kernel_rfl) ?_;iterate 13
  apply Qbz ?_ O ?_;rotate_left
  ·(intro w' hSw;(try obtain ⟨q0,q1,q2,q3⟩:=hSw);simp only [Xq];go_simp;try (with_reducible rfl))
  simp only [Xq,Xr]
 refine Qbe 13 ?_;simp only [Xq];go_simp;generalize ci:w.alloc (.cells #[Xi id] 3)=w1;have bM:Xb w w1.drew:=by rw [<- ci];exact Xd.drew
 have cS:∀ a,some ((Xa w.heap.size 0):Addr)=some a->∀ j u,[Value.int .i64 id][j]?=some u->w1.drew.cell? (a.add j)=some u:=by rw [<- ci];exact Q3 w #[Xi id] 3
 have bN:Xb B w1.drew:=bw.out.trans (bM.mono bw.out.size);have aq:=dY.out.below bM;have ak:=bJ.out _ bN;clear O dW dX gc gd dZ f0 fH ci;have O:(λw':World=>Xf w' o 7/\Xc w' o 7 G/\Xc w' p 0 (.slice (some (Xa g 0)) R.length a3)/\Xc w' g (l*6) (Xi id)) w1.drew:=⟨aq.cnt.frozen 7,aq.cnt.cell (i:=7) (by omega),ak.1,ak.2.1⟩;refine Qbe 14 ?_;simp only [Xq];refine QeZ w1.drew _ _ 69 (by rfl) 0 3 bu _ 1 8 Tryz.underlying69 bc bd bf bg rfl G F.length (Qs F) (by rfl) aq.irow (some (Xa w.heap.size 0)) 1 1 [Xi id] (by rfl) (by simp) rfl (λa V j u ge=>cS a V j u ge) (by simp [Value.oneCell']) (by omega) (by omega) X3 ?_;intro hd w2 c3 bh;obtain ⟨aR,aS,rfl⟩:=Qy c3;obtain ⟨dm,dn,dp⟩:=QuL dY.out bM c3 bh;have cj:Xb B w2:=bN.grown bh.by bN.size (λb e=>aL.out b (.inr (.inl e)));have bO:=QeJ bh aq.lt.1 aq.ic;have au:=bJ.out _ cj;clear O ak;have O:(λw':World=>Xf w' o 7/\Xc w' o 7 G/\Xc w' p 0 (.slice (some (Xa g 0)) R.length a3)/\Xc w' g (l*6) (Xi id)) w2:=⟨(Xm o 7 bO).trans (aq.cnt.frozen 7),(Xk o 7 bO).trans (aq.cnt.cell (i:=7) (by omega)),au.1,au.2.1⟩;refine ⟨.inr O,?_⟩;have fo:o<w2.heap.size:=Xb4 aq.lt.1 bh.size;obtain ⟨f1,f2,f3,f4⟩:=O;have O:(λw':World=>Xf w' o 7/\Xc w' o 7 G/\Xc w' p 0 (.slice (some (Xa g 0)) R.length a3)/\Xc w' g (l*6) (Xi id)) w2:=⟨f1,f2,f3,f4⟩;have ag:=Qa dm;have dq:=Qa dn;have dr:=Qa dp;have bP:Hid (Xb B (w2.setCell (Xa o 7) (.slice aR (F.length+1) aS))):=Qa (cj.setCell (aL.out o (.inl rfl)) _);clear dm dn dp cj bO au c3 bh cS bM bN aq;simp only [Xr];iterate 2
  apply Qbz ?_ O ?_;rotate_left
  ·(intro w' hSw;(try obtain ⟨q0,q1,q2,q3⟩:=hSw);simp only [Xq];go_simp;try (with_reducible rfl))
  simp only [Xq,Xr]
 refine Qbe 17 ?_;simp only [Xq];go_simp;refine ⟨.inl (by kernel_rfl),?_⟩;refine ZP (by kernel_rfl) ?_ _;generalize w2.setCell (Xa o 7) (.slice aR (F.length+1) aS)=f5 at *;clear O f1 f2 f3 f4 fo;have f6:Xc f5 o 8 (.slice c0 A.length ac):=ag.out.cnt.cell (i:=8) (by omega);have gf:=ag.out.cnt.frozen 8;have ds:=ag.out.lt.1;go_wp2_with (first|(at_builtin;refine Zp _ rfl (.tmp 42) (.tmp 44) 69 rfl 0 3 bu _ 1 8 Tryz.underlying69 bc bd bf bg rfl (.slice c0 A.length ac) A.length (Qs A) rfl (ag.out.arow.alloc _) (some (Xa f5.heap.size 0)) 1 1 [Xi (s:Int)] rfl (by simp) rfl (Q3 _ _ _) (by simp [Value.oneCell']) (by omega) (by omega) X3 ?_;intro hf w3 ck bQ _;obtain ⟨aG,aH,rfl⟩:=Qy ck.out;obtain ⟨dt,du,dv⟩:=QsX ag.out Xd ck.out bQ.out;have cl:=QeJ bQ.out (b:=o) (by simp;omega) ag.out.ac;have dw:=(Xk o 8 cl).trans ((Xc2 _ _ _ ds).trans f6);have fL:=(Xm o 8 cl);have fM:o<w3.heap.size:=X6 dw;have aT:=Qa dt;have dx:=Qa du;have dy:=Qa dv;have dz:Hid (Xb B w3):=Qa (((bP.out.alloc bP.out.size _)).grown bQ.out.by (by simp;exact Nat.le_succ_of_le bP.out.size) (λb e=>aL.out b (.inr (.inr e))));clear dt du dv cl));have bi:Hid (Xb B (w3.setCell (Xa o 8) (.slice aG (A.length+1) aH))):=Qa (dz.out.setCell (aL.out o (.inl rfl)) _);have cm:Hid (Q7 o G (.slice c0 A.length ac) w (.slice aR (F.length+1) aS) (.slice aG (A.length+1) aH) (w3.setCell (Xa o 8) (.slice aG (A.length+1) aH))):=Qa ((Q7.ids dq.out dr.out).trans (Q7.ats dx.out dy.out));clear f6 gf ds dw fL fM dz dx dy dq dr ag bP bQ ck;generalize w3.setCell (Xa o 8) (.slice aG (A.length+1) aH)=cF at *;have aU:Hid (∀ x,ZY o (.slice aR (F.length+1) aS) (.slice aG (A.length+1) aH) x->B.heap.size<=x):=Qa ((cm.out.below bw.out aL.out).2);obtain ⟨cG,cH,gg,gh,gi,gj,gk,gl,gm,gn,fN,fO⟩:=c8.out cF bi.out;have fP:=(d1.out cF bi.out).lt
 go_region_held3 (λw'=>w'.cell? (Xa p 0)=some (.slice (some (Xa g 0)) R.length a3)/\w'.cell? (Xa g (l*6))=some (Xi id)/\w'.cell? (Xa g (l*6+1))=some (Xi fl)/\w'.cell? (Xa g (l*6+2))=some (.string fm)/\w'.cell? (Xa g (l*6+3))=some (Xi fn)/\w'.cell? (Xa g (l*6+4))=some (.slice fI fJ fK)/\w'.cell? (Xa g (l*6+5))=some (.string fg)/\w'.cell? (Xa b (H+s*5))=some (Xi (L s).d)/\w'.cell? (Xa b (H+s*5+1))=some (.string (L s).t)/\w'.cell? (Xa b (H+s*5+2))=some (Xi (L s).k)/\w'.cell? (Xa b (H+s*5+3))=some (.slice (L s).ao (L s).an (L s).ac)/\w'.cell? (Xa b (H+s*5+4))=some (.string (L s).x))
   (first
     | go_keep
     | exact bj)
   (first|(go_at_call 72;refine (Qb cQ o K _ _ _ _ cF.drew bi.out.drew (aT.out.keep λ_ _=>rfl) aU.out (λj=>by have:=cD j;omega)).mono ?_;rintro e w4 ⟨rfl,dA,cn⟩;have bj:=c8.out w4 (cn.below bi.out.drew aU.out).1))
 have bR:Hid (Q7 o G (.slice c0 A.length ac) w (.slice aR (F.length+1) aS) (.slice aG (A.length+1) aH) w4):=Qa (cm.out.trans ((Q7.of (X4.drew)).trans cn));have aI:Hid (Xb B w4):=Qa (bR.out.below bw.out aL.out).1;have co:=Qa dA;clear dA cn bj cm bi aU aT cG cH gg gh gi gj gk gl gm gn fN fO fP c8 cQ;generalize cp:(λj=>K j+Qa4 (Qc R id) (L s) (j:Int))=a5 at *;generalize Value.slice aR (F.length+1) aS=ah at *;generalize Value.slice aG (A.length+1) aH=ai at *;obtain ⟨cG,cH,fQ,fR⟩:=bJ.out w4 aI.out;rename_i hHeld;clear hHeld;have cT:Hid (∀ h,Xb B h->Xl 67 #[Xp p,Xi id] h λe w'=>∃ r,e=.returned r/\Q0 w' h.heap.size r (Jb (Qn R id))/\Xb h w'):=Qa λh D=>Qm2 S p R last _ id h (d1.out h D);have cU:Hid (∀ h,Xb B h->Xl 73 #[.slice (some (Xa b H)) N c,Xi (s:Int)] h λe w'=>∃ r,e=.returned r/\Q0 w' h.heap.size r (Jb (Jr L s (n-1)))/\Xb h w'):=Qa λh D=>Qtq b H N c L s n h (by omega) (b6.out h D) fi dg af.deep fh fF;simp only [Exit.then];go_wp2_with (first|(go_at_call 67;refine (Qb cT _ aI.out).mono ?_;rintro e f7 ⟨gp,rfl,aJ,bk⟩)|(go_at_call 73;refine (Qb cU _ (aI.out.trans (bk.mono aI.out.size))).mono ?_;rintro e aA ⟨hg,rfl,aK,cq⟩));have bS:Hid (Q0 aA w4.heap.size gp (Jb (Qn R id))):=Qa (aJ.below cq);have bT:=Qa aK;have bl:Hid (Xb w4 aA):=Qa (bk.trans (cq.mono bk.size));have fS:Hid (w4.heap.size<=f7.heap.size):=Qa bk.size;have aV:Hid (Xb B aA):=Qa (aI.out.trans (bl.out.mono aI.out.size));have dB:Hid (∀ i,i ∈ Qn R id->i<R.length):=Qa λi aa=>(Qcy aa).1;have gK:(Qn R id).length<=800:=by
  unfold Qn;split
  ·exact X3
  have:=QhI R id R.length;omega
 obtain ⟨fT,gq,f8,_⟩:=bS.out.shape;rw [Qar] at f8;subst f8;obtain ⟨fU,fV,f9,_⟩:=bT.out.shape;rw [Qar] at f9;subst f9;clear aJ aK bk cq cG cH fQ fR cT cU;generalize gX:Qn R id=C at *;go_loopw [12,14,16] (λaM aN i wr=>∃ (k:Nat) (t q:Value),k<=C.length/\i=Xi k/\t=aM/\q=aN/\Hid (TK wr aA.heap.size t q ((C.take k).map (QcK R)) ((C.take k).map (QcB R)))/\Hid (k=0->t=Xv/\q=Xv)/\Xb aA wr) (λ_ _ i _=>C.length-(intOf i).toNat);·exact ⟨0,_,_,X3,rfl,rfl,rfl,Qa (TK.nil _ _),Qa λ_=>⟨rfl,rfl⟩,X4⟩
 case round =>
  obtain ⟨k,aM,aN,W,rfl,rfl,rfl,ar,ca,M⟩:=hrel;by_cases a7:k<C.length
  ·have aW:=dB.out C[k] (Xa0 a7);obtain ⟨P,b7,fp,fq,b8,a1⟩:=bS.out.some (by rw [Qar];omega);have a1:=a1 k (by rw [Qar];omega);unfold Jb at a1;rw [getElem?_map,getElem?_eq_getElem a7] at a1;subst b7;have ak:=(Xh M P k b8).trans a1;obtain ⟨cI,au,av,gr,hh⟩:=d3.out wr (aV.out.trans (M.mono aV.out.size)) C[k] aW;have cJ:=Qa (Qgj (QcK R) a7);have cK:=Qa (Qgj (QcB R) a7);have fW:((C.take k).map (QcK R)).length<=800:=by rw [Qhc _ W];omega
   have fX:((C.take k).map (QcB R)).length<=800:=by rw [Qhc _ W];omega
   have fa:(0:Int)<=(k:Int):=by omega
   have fb:(k:Int)<(C.length:Int):=by omega
   generalize QcK R C[k]=aO at *;generalize QcB R C[k]=aB at *;generalize (C.take k).map (QcK R)=T at *;generalize (C.take k).map (QcB R)=bC at *;generalize C[k]=Y at *;have gs:(0:Int)<=(Y:Int):=by omega
   have gt:(Y:Int)<(R.length:Int):=by omega
   have cr:=M.size;have gu:P<wr.heap.size:=by omega
   have J:∀ b,b<aA.heap.size->aM.ownBlock≠some b/\aN.ownBlock≠some b:=λb hi=>⟨λe=>by have:=(ar.out.t.lt b e).1;omega,λe=>by have:=(ar.out.k.lt b e).1;omega⟩;have fY:=dl.out;have fZ:=aV.out.size;have c1:=(J g (by omega)).1;have gv:=(J p (by omega)).1;have ct:=(J P b8).1;have fc:=(J g (by omega)).2;have gw:=(J p (by omega)).2;have dC:=(J P b8).2;have bU:=Qa M;clear J M a1 ca;go_wp2_with fail
   go_region_held3 (λw'=>w'.cell? (Xa p 0)=some (.slice (some (Xa g 0)) R.length a3)/\w'.cell? (Xa P k)=some (Xi Y)/\w'.cell? (Xa g (Y*6+2))=some (.string aO))
     (first
       | go_keep
       | (go_split_ands
          refine ⟨?_,?_,?_⟩
          · (rw [X.cell_far _ (by simp;omega) (Ne.symm gv)];assumption)
          · (rw [X.cell_far _ (by simp;omega) (Ne.symm ct)];assumption)
          · (rw [X.cell_far _ (by simp;omega) (Ne.symm c1)];assumption)))
     ((refine step_append_lies _ (by rfl) _ _ _ (by rfl) aA.heap.size 9 dT _ 1 16 Tryz.underlying151 dh di dj dk rfl (by omega) aM T.length _ (by rfl) ((World.ownsRow.alloc (ar.out.t) _).drew)
         (Xa wr.heap.size 0) 1 1 [.string aO] (by rfl) (by rfl) (World.news_of_block (cs:=#[.string aO]) (t:=9) (fr:=(0,0)) (Xc5 wr _)) (by simp [Value.oneCell'])
         (by omega) (by unfold maxLen;omega) (by omega) (by simp;omega) (wr.heap.size+1) (by simp) ?_;intro gx fs b3 cV X bm gL))
   rename_i hHeld;obtain ⟨gy,cL,_⟩:=hHeld;have cu:=((bU.out.alloc cr (.cells #[.string aO] 9)).drew).grown X (by simp;omega) (λj aP=>(ar.out.t.lt j aP).1);have bx:b3.cell? (Xa g (Y*6+3))=some (Xi aB):=(X.cell_far _ (by simp;omega) (Ne.symm c1)).trans ((Xc2 wr _ _ (by simp;omega)).trans av);have al:=Qa (ar.out.addT (Xd.drew) cV X bm (Nat.le_succ _));clear cV X ar bU cI ak au av bm;have cb:=cu.size;have bn:=Qa cu;clear cu;generalize Value.slice (some (Xa gx 0)) (T.length+1) fs=gY at *;go_wp2_with fail
   go_region_held3 (λw'=>w'.cell? (Xa p 0)=some (.slice (some (Xa g 0)) R.length a3)/\w'.cell? (Xa P k)=some (Xi Y)/\w'.cell? (Xa g (Y*6+3))=some (Xi aB))
     (first
       | go_keep
       | (go_split_ands
          refine ⟨?_,?_,?_⟩
          · (rw [X.cell_far _ (by simp;omega) (Ne.symm gw)];assumption)
          · (rw [X.cell_far _ (by simp;omega) (Ne.symm dC)];assumption)
          · (rw [X.cell_far _ (by simp;omega) (Ne.symm fc)];assumption)))
     ((refine step_append_lies _ (by rfl) _ _ _ (by rfl) aA.heap.size 3 bu _ 1 8 Tryz.underlying69 bc bd bf bg rfl (by omega) aN bC.length _ (by rfl) ((World.ownsRow.alloc (al.out.k) _).drew)
         (Xa b3.heap.size 0) 1 1 [Xi aB] (by rfl) (by rfl) (World.news_of_block (cs:=#[Xi aB]) (t:=3) (fr:=(0,0)) (Xc5 b3 _)) (by simp [Value.oneCell'])
         (by omega) (by unfold maxLen;omega) (by omega) (by simp;omega) (b3.heap.size+1) (by simp) ?_;intro gZ gM gz cW X bm gN))
   have cv:=Qa (((bn.out.alloc cb (.cells #[Xi aB] 3)).drew).grown X (by simp;omega) (λj aP=>(al.out.k.lt j aP).1));have b9:=Qa (al.out.addK (Xd.drew) cW X bm (Nat.le_succ _));rw [<- cJ.out,<- cK.out] at b9;clear cW X al bn gy cL bx bm;go_wp2;go_roundw;·exact ⟨k+1,_,_,by omega,by go_num,rfl,rfl,b9,Qa λe=>by omega,cv.out⟩
   simp [intOf];omega
  have bo:k=C.length:=by omega
  subst bo;rw [take_length] at ar;have aX:=Qa (aV.out.trans (M.mono aV.out.size));have aY:=Qa M;clear M;obtain ⟨bz,g0⟩:∃ x,x=wr:=⟨wr,rfl⟩;subst g0;have g1:Hid (∀ i,i ∈ Jr L s (n-1)->i<N):=Qa λi aa=>by have:=Qhi.1 aa;omega
  have gO:(Jr L s (n-1)).length<=800:=by have:=Qi7 L s (n-1);omega
  generalize h0:Jr L s (n-1)=E at *;go_wp2;go_loopw [13,15,17] (λaM aN i wr=>∃ (k:Nat) (t q:Value),k<=E.length/\i=Xi k/\t=aM/\q=aN/\Hid (TK wr bz.heap.size t q ((E.take k).map λi=>(L i).t) ((E.take k).map λi=>(L i).k))/\Hid (k=0->t=Xv/\q=Xv)/\Xb bz wr) (λ_ _ i _=>E.length-(intOf i).toNat);·exact ⟨0,_,_,X3,rfl,rfl,rfl,Qa (TK.nil _ _),Qa λ_=>⟨rfl,rfl⟩,X4⟩
  case round =>
   obtain ⟨k,dD,dE,W,rfl,rfl,rfl,a6,cX,M⟩:=hrel;by_cases a7:k<E.length
   ·have aW:=g1.out E[k] (Xa0 a7);obtain ⟨P,b7,fp,fq,b8,a1⟩:=bT.out.some (by rw [Qar];omega);have a1:=a1 k (by rw [Qar];omega);unfold Jb at a1;rw [getElem?_map,getElem?_eq_getElem a7] at a1;subst b7;have ft:=aY.out.size;have ak:wr.cell? (Xa P k)=some (Xi (E[k]:Int)):=(Xh M P k (by (try simp);omega)).trans ((Xh aY.out P k b8).trans a1);have gA:=Qa (aX.out.trans (M.mono aX.out.size));obtain ⟨au,av,gr⟩:=d4.out wr gA.out E[k] aW;have cJ:=Qa (Qgj (λi=>(L i).t) a7);have cK:=Qa (Qgj (λi=>(L i).k) a7);have fW:((E.take k).map λi=>(L i).t).length<=800:=by rw [Qhc _ W];omega
    have fX:((E.take k).map λi=>(L i).k).length<=800:=by rw [Qhc _ W];omega
    have fa:(0:Int)<=(k:Int):=by omega
    have fb:(k:Int)<(E.length:Int):=by omega
    generalize (L E[k]).t=aO at *;generalize (L E[k]).k=aB at *;generalize (E.take k).map (λi=>(L i).t)=T at *;generalize (E.take k).map (λi=>(L i).k)=bC at *;generalize E[k]=Y at *;have gs:(0:Int)<=(Y:Int):=by omega
    have gt:(Y:Int)<(N:Int):=by omega
    have cr:=M.size;have gu:P<wr.heap.size:=by omega
    have fY:=dl.out;have fZ:=aX.out.size;have J:∀ x,x<bz.heap.size->dD.ownBlock≠some x/\dE.ownBlock≠some x:=λx a9=>⟨λe=>by have:=(a6.out.t.lt x e).1;omega,λe=>by have:=(a6.out.k.lt x e).1;omega⟩;have c1:=(J b (by omega)).1;have ct:=(J P (by omega)).1;have fc:=(J b (by omega)).2;have dC:=(J P (by omega)).2;have bU:=Qa M;clear J M a1 cX;obtain ⟨g2,g3,rfl⟩:=Qy a6.out.t;obtain ⟨g4,g5,rfl⟩:=Qy a6.out.k
    go_wp2_with (first
      | (at_builtin;refine Zp _ rfl (.tmp 114) (.tmp 123) 151 rfl bz.heap.size 9 dT _ 1 16 Tryz.underlying151 dh di dj dk rfl (.slice g2 T.length g3) T.length (Qcd T) rfl (a6.out.t.alloc _) (some (Xa wr.heap.size 0)) 1 1 [.string aO] rfl (by simp) rfl (Q3 _ _ _) (by simp [Value.oneCell']) (by omega) (by omega) (by simp;omega) ?_;intro hj b3 cw bp _;obtain ⟨hk,hl,rfl⟩:=Qy cw.out;have al:=Qa (a6.out.growT Xd cw.out bp.out);have bn:=Qa ((bU.out.alloc cr (.cells #[.string aO] 9)).grown bp.out.by (by simp;omega) (λj aP=>(a6.out.t.lt j aP).1));have cb:=bn.out.size;have cL:=(bp.out.by.cell_far (Xa P k) (by simp;omega) (Ne.symm ct)).trans ((Xc2 wr _ _ (by simp;omega)).trans ak);have c2:=(bp.out.by.cell_far (Xa b (H+Y*5+2)) (by simp;omega) (Ne.symm c1)).trans ((Xc2 wr _ _ (by simp;omega)).trans av);clear ak au av cw bp a6)
      | (at_builtin;refine Zp _ rfl (.tmp 125) (.tmp 134) 69 rfl bz.heap.size 3 bu _ 1 8 Tryz.underlying69 bc bd bf bg rfl (.slice g4 bC.length g5) bC.length (Qs bC) rfl (al.out.k.alloc _) (some (Xa b3.heap.size 0)) 1 1 [Xi aB] rfl (by simp) rfl (Q3 _ _ _) (by simp [Value.oneCell']) (by omega) (by omega) (by simp;omega) ?_;intro hm gz dF cx _;have b9:=Qa (al.out.growK Xd dF.out cx.out);have cv:=Qa ((bn.out.alloc cb (.cells #[Xi aB] 3)).grown cx.out.by (by simp;omega) (λj aP=>(al.out.k.lt j aP).1));clear cL c2 dF cx al))
    rw [<- cJ.out,<- cK.out] at b9;go_roundw;·exact ⟨k+1,_,_,by omega,by go_num,rfl,rfl,b9,Qa λe=>by omega,cv.out⟩
    simp [intOf];omega
   have bo:k=E.length:=by omega
   subst bo;rw [take_length] at a6;obtain ⟨a2,fu⟩:∃ x,x=wr:=⟨wr,rfl⟩;subst fu;have bq:Hid (∀ x,ZY o ah ai x->x<w4.heap.size):=Qa λx e=>by
    obtain ⟨cE,dV,gB⟩:=co.out.lt;rcases e with e|e|e
    ·rw [e];exact cE
    ·exact dV x e
    exact gB x e
   have bG:=aY.out.trans (M.mono aY.out.size);have c5:Xb w4 a2:=bl.out.trans (bG.mono bl.out.size);have d6:=Qa (co.out.below c5);have fv:=Qa (bR.out.trans (Q7.of c5));have dG:=Qa (ar.out.below M);have cY:=Qa (bS.out.below bG);have cZ:=Qa (bT.out.below bG);have gP:=bl.out.size;have ft:=aY.out.size;have gH:=M.size;have d7:Hid (Xb B a2):=Qa (aX.out.trans (M.mono aX.out.size));have aU:Hid (∀ x,ZY o ah ai x->B.heap.size<=x):=Qa (bR.out.below bw.out aL.out).2;have d8:E.length=(Qe L s n).length:=by rw [d5.out,length_map]
   generalize g6:QE (Qc R) L (Qc R id).kids s (Qe L s n)=pr at *;have bV:Hid (∀ k,k<E.length->∀ h y z,Q7 o ah ai a2 y z h->Xl 74 #[aM,aN,dD,dE,Xi (k:Int)] h λe w'=>e=.returned (Xi (pr.getD k 0))/\Xb h w'):=Qa λk W h y z U=>by have fd:=Qn2 (dG.out.stp U λx e=>by have:=bq.out x e;omega) (a6.out.stp U λx e=>by have:=bq.out x e;omega) (by simp) (by simp) (by rw [length_map];omega) (by rw [length_map];omega) (λe=>ca.out (by rw [length_map] at e;exact e)) (i:=k) (by rw [length_map];exact W);rw [length_map,cR.out k (by omega)] at fd;exact fd
   have a8:Hid (∀ h y z,Q7 o ah ai a2 y z h->Xb B h/\(∀ x,ZY o y z x->B.heap.size<=x)/\h.ownsRow w4.heap.size 3 1 (.slice fT C.length gq) (Jb C).length (Jb C)/\h.ownsRow f7.heap.size 3 1 (.slice fU E.length fV) (Jb E).length (Jb E)):=Qa λh y z U=>⟨(U.below d7.out aU.out).1,(U.below d7.out aU.out).2,QgO cY.out U bq.out,QgO cZ.out U λx e=>by have ab:=bq.out x e;have aC:=fS.out;omega⟩;clear bG c5 ar a6 ca cX M dG bS bT cY cZ co bR aX aY aV aI bl bq d3 d4 cR;have ba:=Qa d8;clear d8;go_wp2;go_loopw [18,19,20] (λcM i _ wr=>∃ (k:Nat) (q y z:Value),k<=E.length/\i=Xi k/\q=cM/\Hid (wr.ownsRow a2.heap.size 3 1 q ((pr.take k).filter QL).length (Qs ((pr.take k).filter QL)))/\Hid ((pr.take k).filter QL=[]->q=Xv)/\Hid (Zv wr o (Je R L f id s n a5 k) (Qak R L f id s n (F++[id]) k) (Qal R L f id s n (A++[(s:Int)]) k) y z)/\Hid (Q7 o ah ai a2 y z wr)/\Hid (∀ x,q.ownBlock=some x->¬ ZY o y z x)) (λ_ i _ _=>E.length-(intOf i).toNat)
   ·have ak:Qak R L f id s n (F++[id]) 0=F++[id]:=by unfold Qak;rw [Qan];exact append_nil _
    have au:Qal R L f id s n (A++[(s:Int)]) 0=A++[(s:Int)]:=by unfold Qal;rw [Qan];exact append_nil _
    have cI:Je R L f id s n a5 0=a5:=rfl;refine ⟨0,_,ah,ai,X3,rfl,rfl,Qa ?_,Qa λ_=>rfl,Qa ?_,Qa (Q7.of X4),Qa λx e=>by cases e⟩
    ·exact Xc0 _ _ _ _
    rw [cI,ak,au];exact d6.out
   case round =>
    obtain ⟨k,cM,y,z,W,rfl,rfl,aw,bH,aZ,aE,cc⟩:=hrel;by_cases a7:k<E.length
    ·have br:k<(Qe L s n).length:=by have:=ba.out;omega
     obtain ⟨_,_,_,aK⟩:=a8.out wr y z aE.out;obtain ⟨cN,fw,_,_,_,_⟩:=Q0.some aK (by rw [Qar];omega);subst fw;have aT:Hid (∀ h y z,Q7 o ah ai a2 y z h->h.cell? (Xa cN k)=some (Xi ((s+((Qe L s n).getD k (0,0)).1:Nat):Int))/\cN<h.heap.size):=Qa λh y z U=>by obtain ⟨_,_,_,aK⟩:=a8.out h y z U;obtain ⟨gC,av,_,_,cO,a0⟩:=Q0.some aK (by rw [Qar];omega);cases av;have a0:=a0 k (by rw [Qar];omega);unfold Jb at a0;rw [d5.out,map_map,getElem?_map,getElem?_eq_getElem br] at a0;refine ⟨a0.trans ?_,cO⟩;rw [Xg br];rfl
     have dH:Hid (∀ j,a5 j+1000*(n-1)<=1000000):=Qa λj=>by have ab:=cD j;have aC:=fj.out j;rw [<- cp];show K j+Qa4 (Qc R id) (L s) (j:Int)+1000*(n-1)<=1000000;omega
     have fa:(0:Int)<=(k:Int):=by omega
     have fb:(k:Int)<(E.length:Int):=by omega
     have bW:=Qa (bV.out k a7 wr y z aE.out);have fx:pr.length=(Qe L s n).length:=aF.out.1;have az:=Qa (Qo1 (pr:=pr) (k:=k) (by omega));clear fx;rcases aF.out.2.1 k br with a9|⟨q,a9,J⟩
     ·have gD:Hid (∀ h,Q7 o ah ai a2 y z h->Zv h o (Je R L f id s n a5 k) (Qak R L f id s n (F++[id]) k) (Qal R L f id s n (A++[(s:Int)]) k) y z->Xl 75 #[Xp o,.slice (some (Xa b H)) N c,Xi ((s+((Qe L s n).getD k (0,0)).1:Nat):Int)] h λe w'=>e=.returned (.tuple #[])/\Zv w' o (Je R L f id s n a5 (k+1)) (Qak R L f id s n (F++[id]) (k+1)) (Qal R L f id s n (A++[(s:Int)]) (k+1)) y z/\Q7 o y z h y z w'):=Qa λh U cP=>bD.out k br a9 a5 _ _ y z h (a8.out h y z U).1 cP (a8.out h y z U).2.1 dH.out;rw [a9] at bW az;rw [if_pos rfl,append_nil] at az;generalize (s+((Qe L s n).getD k (0,0)).1)=Y at *;clear bD bE a9 c9 bF a8 bV;go_wp2_with (first|(go_at_call 74;refine (Qb bW).mono ?_;rintro e bX ⟨rfl,ax⟩;have b5:=Qa (aE.out.trans (Q7.of ax));obtain ⟨h1,h2⟩:=aT.out bX y z b5.out;have cd:=Qa (aZ.out.below ax))|(go_at_call 75;refine (Qb gD _ b5.out cd.out).mono ?_;rintro e h3 ⟨rfl,d9,ce⟩));obtain ⟨bA,bB⟩:=Qj2 aw.out cc.out ((Q7.of ax).trans ce);have aD:Hid _:=Qa (And.intro bA (And.intro bB (And.intro d9 (b5.out.trans ce))));clear bA bB d9 ce;go_roundw;·exact ⟨k+1,_,y,z,by omega,by go_num,rfl,Qa (by rw [az.out];exact aD.out.1),Qa (by rw [az.out];exact bH.out),Qa aD.out.2.2.1,Qa aD.out.2.2.2,Qa aD.out.2.1⟩
      simp [intOf];omega
     have cy:q<C.length:=by rw [<- bK.out,length_map] at J;exact J
     have bL:Qg R C[q]=(Qc R id).kids.getD q 0:=by rw [<- bK.out,getD_eq_getElem?_getD,getElem?_map,getElem?_eq_getElem cy];rfl
     have gE:Hid (∀ h,Q7 o ah ai a2 y z h->Zv h o (Je R L f id s n a5 k) (Qak R L f id s n (F++[id]) k) (Qal R L f id s n (A++[(s:Int)]) k) y z->Xl 60 #[Xp o,Xp p,Xi (C[q]:Int),.slice (some (Xa b H)) N c,Xi ((s+((Qe L s n).getD k (0,0)).1:Nat):Int)] h λe w'=>e=.returned (.tuple #[])/\∃ ap av',Zv w' o (Je R L f id s n a5 (k+1)) (Qak R L f id s n (F++[id]) (k+1)) (Qal R L f id s n (A++[(s:Int)]) (k+1)) ap av'/\Q7 o y z h ap av' w'):=Qa λh U cP=>bE.out k br q a9 C[q] (dB.out _ (Xa0 cy)) bL a5 _ _ y z h (a8.out h y z U).1 cP (a8.out h y z U).2.1 (by rw [length_append,length_singleton];omega) (by rw [length_append,length_singleton];omega) dH.out;obtain ⟨_,_,aJ,_⟩:=a8.out wr y z aE.out;obtain ⟨P,b7,_,_,_,_⟩:=Q0.some aJ (by rw [Qar];omega);subst b7;have ag:Hid (∀ h y z,Q7 o ah ai a2 y z h->h.cell? (Xa P q)=some (Xi (C[q]:Int))/\P<h.heap.size):=Qa λh y z U=>by obtain ⟨_,_,aJ,_⟩:=a8.out h y z U;obtain ⟨gC,av,_,_,cO,a0⟩:=Q0.some aJ (by rw [Qar];omega);cases av;have a0:=a0 q (by rw [Qar];omega);unfold Jb at a0;rw [getElem?_map,getElem?_eq_getElem cy] at a0;exact ⟨a0,cO⟩
     rw [a9] at bW az;rw [if_neg (by omega)] at az;have gQ:((pr.take k).filter QL).length<=800:=by have ab:=length_filter_le QL (pr.take k);rw [length_take] at ab;omega
     generalize (pr.take k).filter QL=LK at *;generalize C[q]=gF at *;generalize (s+((Qe L s n).getD k (0,0)).1)=Y at *;have hn:(0:Int)<=(q:Int):=by omega
     have ho:(q:Int)<(C.length:Int):=by omega
     have fy:=Qa aE.out.touch.size;clear bD bE a9 c9 bF a8 bV bL aJ aK J;go_wp2_with (first|(go_at_call 74;refine (Qb bW).mono ?_;rintro e bX ⟨rfl,ax⟩;have b5:=Qa (aE.out.trans (Q7.of ax));have cd:=Qa (aZ.out.below ax);have fz:=Qa (QX aw.out ax);have gR:a2.heap.size<=bX.heap.size:=Xb6 fy.out ax.size)|(at_builtin;refine Zp _ rfl (.tmp 157) (.tmp 159) 69 rfl a2.heap.size 3 bu _ 1 8 Tryz.underlying69 bc bd bf bg rfl cM LK.length (Qs LK) rfl (fz.out.alloc _) (some (Xa bX.heap.size 0)) 1 1 [Xi (q:Int)] rfl (by simp) rfl (Q3 _ _ _) (by simp [Value.oneCell']) (by omega) (by omega) (by simp;omega) ?_;intro g7 cz fA da _;have bI:=Qa (QpH b5.out Xd da.out λx e=>(aw.out.lt x e).1);have db:=Qa (QqR cd.out Xd da.out cc.out)));obtain ⟨gG,h4⟩:=ag.out cz y z bI.out;obtain ⟨b4,h5⟩:=aT.out cz y z bI.out
     go_region_held3 (λw'=>w'.cell? (Xa P q)=some (Xi gF)/\w'.cell? (Xa cN k)=some (Xi Y))
       (first
         | go_keep
         | exact bj)
       (first|(go_at_call 60;refine (Qb gE cz.drew (bI.out.trans (Q7.of X4.drew)) (db.out.1.below X4.drew)).mono ?_;rintro e dI ⟨rfl,ap,av',dc,cf⟩;have c6:=Qa (bI.out.trans ((Q7.of X4.drew).trans cf));have bj:=And.intro (ag.out dI ap av' c6.out).1 (aT.out dI ap av' c6.out).1))
     obtain ⟨bA,bB⟩:=Qj2 fA.out db.out.2 ((Q7.of X4.drew).trans cf);have aD:Hid _:=Qa (And.intro bA (And.intro bB dc));clear bA bB dc cf bj gG b4;go_wp2;go_roundw;·exact ⟨k+1,g7,ap,av',by omega,by go_num,rfl,Qa (by rw [az.out,length_append,QcR];exact aD.out.1),Qa (by rw [az.out];intro e;simp at e),Qa aD.out.2.2,c6,Qa aD.out.2.1⟩
     simp [intOf];omega
    have bo:k=E.length:=by omega
    subst bo;obtain ⟨a0,c2,fe⟩:=aZ.out.cnt.kind (j:=3) (by omega);clear a0 c2 fe;have aW:pr.take E.length=pr:=take_of_length_le (by have ab:=aF.out.1;have aC:=ba.out;omega);rw [aW] at aw bH;clear aW;have h6:(pr.filter QL).length<=C.length:=by have ab:=aF.out.2.2.1;have aC:=aF.out.2.2.2;rw [<- bK.out,length_map] at ab;omega
    have dJ:∀ j,Je R L f id s n a5 E.length j<=1000000:=λj=>by have ab:=c9.out K j;have aC:=fk.out j;have ff:=cD j;rw [cp,<- ba.out] at ab;omega
    obtain ⟨a0,c2,fe⟩:=aZ.out.cnt.kind (j:=3) (by omega);have h7:=dJ 3;have bO:=dJ 2;obtain ⟨dK,dL,rfl⟩:=Qy aw.out;clear bD bE a8 bV d6;generalize fB:Je R L f id s n a5 E.length=K5 at *;generalize dM:(pr.filter QL).length=m at *;go_wp2_with fail;have dd:(K5 3:Int)+(C.length:Int)-(m:Int)=((K5 3+(C.length-m):Nat):Int):=by omega
    have bb:=Qa (aZ.out.put (j:=3) (by omega) (K5 3+(C.length-m)));rw [<- dd] at bb;clear dd;have fC:=Qa (Qpi (K:=K) (K5:=K5) g6 (by rw [cp,<- ba.out];exact fB) dM (by rw [<- bK.out,length_map]));have h8:(Q4 pr).length<=m:=by have ab:=QhL pr;have aC:=aF.out.2.2.2;have ff:=aF.out.1;rw [<- ff] at aC;omega
    have dN:Hid (((wr.setCell (Xa o 3) (Xi ((K5 3:Int)+(C.length:Int)-(m:Int)))).ownsRow a2.heap.size 3 1 (.slice dK m dL) m (Qs (pr.filter QL)))):=Qa (Q8 aw.out λx e=>bb.out.2.block x (aw.out.lt x e).2 λad=>cc.out x e (.inl ad));have fD:Hid (pr.filter QL=[]->Value.slice dK m dL=Xv):=bH;go_still_tail 14,(by kernel_rfl);go_wp2_with fail;have cg:=Qa (bb.out.1.below X4.drew);have de:=Qa ((aE.out.trans (.one bb.out.2)).trans (Q7.of X4.drew));have df:=Qa (QX dN.out X4.drew);clear bb dN;generalize (wr.setCell (Xa o 3) (Xi ((K5 3:Int)+(C.length:Int)-(m:Int)))).drew=bY at *;obtain ⟨b4,bx,bZ⟩:=cg.out.cnt.kind (j:=2) (by omega);simp only [Nat.reduceEqDiff,if_false] at b4;have O:(λw':World=>Xf w' o 2/\Xc w' o 2 (Xi (K5 2:Int))) bY.drew:=⟨bx,b4⟩;refine ZU (S:=(λw':World=>w'.frozen? (Xa o 2)=false/\w'.cell? (Xa o 2)=some (Xi (K5 2:Int)))) (by kernel_rfl) ?_;iterate 10
     apply Qbz ?_ O ?_;rotate_left
     ·(intro w' hSw;(try obtain ⟨q0,q1⟩:=hSw);simp only [Xq];go_simp;try (with_reducible rfl))
     simp only [Xq,Xr]
    refine J9 12 ?_;apply Qbh ?_ O ?_;rotate_left
    ·(intro w' hSw;(try obtain ⟨q0,q1⟩:=hSw);simp only [Xq];go_simp;try (with_reducible rfl))
    simp only [Xq,Xr];refine J9 13 ?_;apply Qbh ?_ O ?_;rotate_left
    ·(intro w' hSw;(try obtain ⟨q0,q1⟩:=hSw);simp only [Xq];go_simp;try (with_reducible rfl))
    simp only [Xq,Xr];refine Qbe 10 ?_;simp only [Xq];go_simp;refine (QrV (QX df.out X4.drew) dM (by omega) fD.out).mono ?_;rintro e cA ⟨rfl,ay⟩;have ay:Xb bY cA:=(Below.refl bY.heap.size bY).drew.trans ay;have g8:=(Xh ay o 2 bZ).trans b4;have g9:=(Xj ay o 2 bZ).trans bx;have gS:o<cA.heap.size:=Xb4 bZ ay.size;have dO:IntKind.i64.wrap (IntKind.i64.wrap ((K5 2:Int)+(m:Int))-((Q4 pr).length:Int))=((K5 2+(m-(Q4 pr).length):Nat):Int):=by have ab:IntKind.i64.wrap ((K5 2:Int)+(m:Int))=(K5 2:Int)+(m:Int):=Qe0 (by omega) (by omega);rw [ab];have aC:IntKind.i64.wrap ((K5 2:Int)+(m:Int)-((Q4 pr).length:Int))=(K5 2:Int)+(m:Int)-((Q4 pr).length:Int):=Qe0 (by omega) (by omega);rw [aC];omega
    have c7:=Qa ((cg.out.below ay).put (j:=2) (by omega) (K5 2+(m-(Q4 pr).length)));rw [<- dO] at c7;have fE:=Qa (de.out.trans (Q7.of ay));clear O b4 bx bZ dO ay cg de df aw bH aZ;generalize (Q4 pr).length=hp at *;have O:(λw':World=>Xf w' o 2/\Xc w' o 2 (Xi (K5 2:Int))) cA:=⟨g9,g8⟩;refine ⟨.inr O,?_⟩;try simp only [Xr]
    refine J9 11 ?_;apply Qbh ?_ O ?_;rotate_left
    ·(intro w' hSw;(try obtain ⟨q0,q1⟩:=hSw);simp only [Xq];go_simp;try (with_reducible rfl))
    simp only [Xq,Xr];refine J9 14 ?_;apply Qbh ?_ O ?_;rotate_left
    ·(intro w' hSw;(try obtain ⟨q0,q1⟩:=hSw);simp only [Xq];go_simp;try (with_reducible rfl))
    simp only [Xq,Xr];refine Qbe 15 ?_;simp only [Xq];go_simp;refine ⟨.inl (by kernel_rfl),?_⟩;refine ZP (by kernel_rfl) ?_ _;go_wp2;refine bodyPost_end (results_none rfl _ _ _) rfl ?_;refine ⟨rfl,y,z,?_,fv.out.trans (fE.out.trans (.one c7.out.2))⟩;rw [<- fC.out,(bF.out F).1,(bF.out A).2,<- ba.out];exact c7.out.1
def Qfv (w:World) (b d:Int) (f:Nat->World->Prop) (e:Ending) (w':World):Prop:=∃ a,e=.returned (.tuple #[a,Xi b,Xi d])/\Xb w w'/\Qau (b==0) (∃ c,a=Xp c/\f c w') (a=.pointer none)
theorem QwI (p:Nat) (ao:Option Addr) (n c:Nat) (w:World) (a b:Int) (h:Nat->World->Prop) (d:(a !=0)=true) (g:Hid (Xl 13 #[.slice ao n c] w λe w'=>e=.returned (.tuple #[Xi a,Xi b])/\Xb w w')) : Xl 39 #[Xp p,.slice ao n c] w (Qfv w a b h):=by go_enter Tryz.func39,Tryz.ntmps39;go_wp2_with (first|(go_at_call 13;refine (Qb g).mono ?_;rintro e w1 ⟨rfl,f⟩));refine bodyPost_ret (results_tmp3 rfl _ _ _) rfl ?_;exact ⟨_,rfl,f,λe=>by simp [bne,e] at d,λ_=>rfl⟩
theorem Qou S p R last v w (a:Qq S w p R last v) (b d n c:Nat) L (C:Qac w b d n L) (a5:0<n) (aw:n<=400) (r:Nat) (D:r<R.length) (ae:Qk R 1=(r:Int)) (a4:Nat->World->Prop) (E bk F:Bool) (h:Int) (x:Hid (h=if E&&bk then if F then 1 else 0 else 3)) (aE:((R[r]'D).tag.toList==(L 0).t.toList)=E) (aF:((R[r]'D).key==(L 0).k)=bk) (W:decide (800<R.length+n)=F) (af:Hid (Xl 13 #[.slice (some (Xa b d)) n c] w λe w'=>e=.returned (.tuple #[Xi 0,Xi 0])/\Xb w w')) (ag:Hid (∀ w2,Xb w w2->Xl 60 #[Xp w2.heap.size,Xp p,Xi r,.slice (some (Xa b d)) n c,Xi 0] (w2.alloc (.cells #[Xi 0,Xi 0,Xi 0,Xi 0,Xi 0,Xi 0,Xi 0,Xv,Xv] 131)) λe w'=>e=.returned (.tuple #[])/\Xb w2 w'/\a4 w2.heap.size w')) : Xl 39 #[Xp p,.slice (some (Xa b d)) n c] w (Qfv w h 0 a4):=by
 obtain ⟨g,m,rfl,ax,ah,_,_,J⟩:=a.at (by omega);have X:=a.lt;have av:=a.few;have G:Hid (∀ w',Qq S w' p R last (Xe g R.length m)->Xl 49 #[Xp p,Xi 1] w' λe a6=>e=.returned (Xi r)/\a6=w'):=Qa λw' ai=>by have:=QbP S p R last _ 1 w' ai;rw [ae] at this;exact this
 have aG:=Qa a;have y:=C.node 0 a5;rw [Nat.zero_mul,Nat.add_zero] at y;have K:=C.lt;have aH:(0:Int)<=(r:Int):=by omega
 have aI:(r:Int)<(R.length:Int):=by omega
 have z:Hid (∀ w',Xb w w'->Xc w' p 0 (Xe g R.length m)/\Xc w' p 1 (Xi 1)/\Xc w' g (r*6) (Xi R[r].id)/\Xc w' g (r*6+1) (Xi R[r].par)/\Xc w' g (r*6+2) (.string R[r].tag)/\Xc w' g (r*6+3) (Xi R[r].key)/\Xc w' g (r*6+4) (.slice R[r].ao R[r].an R[r].ac)/\Xc w' g (r*6+5) (.string R[r].text)/\Xc w' b (d+1) (.string (L 0).t)/\Xc w' b (d+2) (Xi (L 0).k)/\Qq S w' p R last (Xe g R.length m)):=Qa λw' i=>by have l:∀ j u,j<6->R[r].cells[j]?=some u->Xc w' g (r*6+j) u:=λj u aj e=>((Xh i g (r*6+j) ah).trans (J r j D aj)).trans e;exact ⟨(Xh i p 0 X).trans a.c0,(Xh i p 1 X).trans a.c1,l 0 _ (by omega) rfl,l 1 _ (by omega) rfl,l 2 _ (by omega) rfl,l 3 _ (by omega) rfl,l 4 _ (by omega) rfl,l 5 _ (by omega) rfl,(Xh i b (d+1) K).trans y.c1,(Xh i b (d+2) K).trans y.c2,a.below i⟩
 clear a C J y;generalize R[r].id=Y at *;generalize R[r].par=a0 at *;generalize R[r].tag=H at *;generalize R[r].key=I at *;generalize R[r].ao=M at *;generalize R[r].an=N at *;generalize R[r].ac=O at *;generalize R[r].text=a1 at *;generalize (L 0).t=lt at *;generalize (L 0).k=aJ at *;go_enter Tryz.func39,Tryz.ntmps39;go_wp2_with (first|(go_at_call 13;refine (Qb af).mono ?_;rintro e w1 ⟨rfl,B⟩));obtain ⟨A,s,ak,al,ap,aq,ar,au,a2,a3,P⟩:=z.out w1 B;have a7:=B.size;have ay:p<w1.heap.size:=by omega
 have az:g<w1.heap.size:=by omega
 have T:=Qa P;clear P;go_region_held3 (λw'=>w'.cell? (Xa p 0)=some (Xe g R.length m)/\w'.cell? (Xa p 1)=some (Xi 1)/\w'.cell? (Xa g (r*6))=some (Xi Y)/\w'.cell? (Xa g (r*6+1))=some (Xi a0)/\w'.cell? (Xa g (r*6+2))=some (.string H)/\w'.cell? (Xa g (r*6+3))=some (Xi I)/\w'.cell? (Xa g (r*6+4))=some (.slice M N O)/\w'.cell? (Xa g (r*6+5))=some (.string a1)) (first|go_keep|exact a8) (first|(go_at_call 49;refine (Qb G _ (T.out.below X4.drew)).mono ?_;rintro e w2 ⟨rfl,rfl⟩;have a8:=(by assumption:w1.cell? (Xa p 0)=some (Xe g R.length m)))|(go_at_call 49;refine (Qb G _ (T.out.below (X4.drew.alloc X0 _))).mono ?_;rintro e w2 ⟨rfl,rfl⟩));all_goals
  generalize o:(w1.alloc (.cells #[Xi Y,Xi a0,.string H,Xi I,.slice M N O,.string a1] 91)).drew=w2;have f:Xb w w2:=by rw [<- o];exact (B.alloc a7 _).drew
  have aK:w2.cell? (Xa w1.heap.size 2)=some (.string H):=by rw [<- o];simp [go_sem]
  have aL:w2.cell? (Xa w1.heap.size 3)=some (Xi I):=by rw [<- o];simp [go_sem]
  have aA:w1.heap.size<w2.heap.size:=by rw [<- o];simp
  clear A s ak al ap aq ar au a2 a3 o;obtain ⟨A,s,_,_,_,_,_,_,a2,a3,_⟩:=z.out w2 f;have aB:=f.size;have aC:p<w2.heap.size:=by omega
  have aD:b<w2.heap.size:=by omega
  have aM:(0:Int)<(n:Int):=by omega
  cases E with
  | false =>obtain rfl:h=3:=x.out;go_wp2;go_big_quiet (fail);go_wp2;refine bodyPost_ret (results_tmp3 rfl _ _ _) rfl ?_;exact ⟨_,rfl,Qv f _,λe=>by simp at e,λ_=>rfl⟩
  | true =>
   cases bk with
   | false =>obtain rfl:h=3:=x.out;go_wp2;go_big_quiet (fail);go_wp2;refine bodyPost_ret (results_tmp3 rfl _ _ _) rfl ?_;exact ⟨_,rfl,Qv f _,λe=>by simp at e,λ_=>rfl⟩
   | true =>
    go_wp2;go_big_quiet (fail);cases F with
    | true =>
     obtain rfl:h=1:=x.out;have a9:(800:Int)<(R.length:Int)+(n:Int):=by have:=of_decide_eq_true W;omega
     go_wp2;refine bodyPost_ret (results_tmp3 rfl _ _ _) rfl ?_;exact ⟨_,rfl,Qv f _,λe=>by simp at e,λ_=>rfl⟩
    | false =>
     obtain rfl:h=0:=x.out;have a9:(R.length:Int)+(n:Int)<=800:=by have:=of_decide_eq_false W;omega
     generalize U:w2.drewN nq=w3;have q:Xb w w3:=by rw [<- U];exact Qv f _
     clear U A s;obtain ⟨A,s,_,_,_,_,_,_,_,_,_⟩:=z.out w3 q;have V:=q.size;have aa:p<w3.heap.size:=by omega
     have aN:(w3.alloc (.cells #[Xi 0,Xi 0,Xi 0,Xi 0,Xi 0,Xi 0,Xi 0,Xv,Xv] 131)).cell? (Xa p 1)=some (Xi 1):=(Xk p 1 (Xc1 _ _ _ aa)).trans s;go_wp2_with (first|(go_at_call 49;refine (Qb G _ ((Qb z _ (q.alloc V _)).2.2.2.2.2.2.2.2.2.2)).mono ?_;rintro e aO ⟨rfl,rfl⟩)|(go_at_call 60;refine (Qb ag _ q).mono ?_;rintro e w4 ⟨rfl,ab,ad⟩));refine bodyPost_ret (results_tmp3 rfl _ _ _) rfl ?_;exact ⟨_,rfl,q.trans (ab.mono V),λ_=>⟨_,rfl,ad⟩,λe=>by simp at e⟩
theorem Qjz (S:Nat->Prop) (p:Nat) (R:List RN) (last:Int) (v:Value) (b g N c:Nat) (L:Nat->Qd) (a:World) (q:Qq S a p R last v) (l:Qac a b g N L) (j:Nat) (k:Qx R) (m:∀ i,(Qc R i).kids.length<=800/\(Qc R i).ats.length<=5) (o:N<=800) (h:∀ i,i<N->QF L i=true):∀ f d s n,n<=f->d<R.length->Jd L s n->QcX L N s n->Qgr a p R b g N c L j f d s n
 | 0,_,_,_,hf,_,hpc,_=>absurd hpc.pos (by omega)
 | f+1,d,s,n,hf,ha,hpc,hw=>by
  have t:s<N:=by have:=hpc.pos;have:=hw.1;omega
  have u:=Qg8 (h s t);exact QpR S p R last v b g N c L a q l j f d s n ha k m o h hpc hw ⟨u.1,by omega⟩ λx y n' r A z w'=>Qjz S p R last v b g N c L a q l j k m o h f x y n' (by omega) r z w'
theorem Qk4 (c:R.length<=800) (a:∀ n,n ∈ R->n.ats.length<=5) (i:Int):(Qc R i).kids.length<=800/\(Qc R i).ats.length<=5:=by
 unfold Qc;split
 ·next n b =>
  refine ⟨?_,a n (mem_of_find?_eq_some b)⟩;show (Qf R i).length<=800;unfold Qf;rw [length_map];have:=length_filter_le (λn:RN=>n.par==i) R;omega
 exact ⟨X3,X3⟩
def QeX (B:Nat) (R:List RN) (L:Nat->Qd) (n a:Nat) (w':World):Prop:=∃ b c,Zv w' a (λj=>QaI (Qc R) L n 1 0 n (j:Int)) ((JE (Qc R) L n 1 0 n).map (·.1)) ((JE (Qc R) L n 1 0 n).map λx=>(x.2:Int)) b c/\∀ x,ZY a b c x->B<=x
theorem Qn5 (w:World):Zv (w.alloc (.cells #[Xi 0,Xi 0,Xi 0,Xi 0,Xi 0,Xi 0,Xi 0,Xv,Xv] 131)) w.heap.size (λ_=>0) [] [] Xv Xv:=by
 refine ⟨World.rowIs_alloc w #[Xi 0,Xi 0,Xi 0,Xi 0,Xi 0,Xi 0,Xi 0,Xv,Xv] 131 (Qbc (λ_=>0) Xv Xv) λi a=>?_,Xc0 _ _ _ _,Xc0 _ _ _ _,λe=>(nomatch e),λe=>(nomatch e),.inl rfl⟩
 have a:i<9:=a
 match i,a with
 | 0,_=>rfl
 | 1,_=>rfl
 | 2,_=>rfl
 | 3,_=>rfl
 | 4,_=>rfl
 | 5,_=>rfl
 | 6,_=>rfl
 | 7,_=>rfl
 | 8,_=>rfl
theorem QnZ S p R last v w (d:Qq S w p R last v) (g:Qw R last) (F:∀ n,n ∈ R->n.ats.length<=5) ao (n c:Nat) L (G:n<=maxLen) (z:Jp w ao n L) : Xl 39 #[Xp p,.slice ao n c] w (Qfv w (ZG R L n).1 (ZG R L n).2 (QeX w.heap.size R L n)):=by
 have j:=Qif ao n c L w G z;by_cases f:(Zk (QF L) n).1=0
 ·obtain ⟨H,h,C,o⟩:=QiR f;rw [H] at j;obtain ⟨b,B,rfl,q⟩:=z h;obtain ⟨r,a,s,D⟩:=Qic g;have u:=JC g.ids (Xa0 a);rw [s] at u;have l:ZG R L n=(if ((R[r]'a).tag.toList==(L 0).t.toList)&&((R[r]'a).key==(L 0).k) then if decide (800<R.length+n)=true then 1 else 0 else 3,0):=by
   unfold ZG;rw [if_pos f,u];have I:((L 0).t.toList==R[r].tag.toList)=(R[r].tag.toList==(L 0).t.toList):=by rw [Bool.beq_comm]
   have J:((L 0).k==R[r].key)=(R[r].key==(L 0).k):=by rw [Bool.beq_comm]
   simp only [I,J];cases (R[r].tag.toList==(L 0).t.toList&&R[r].key==(L 0).k)<;>by_cases K:800<R.length+n<;>simp [K]
  rw [l];refine Qou S p R last v w d b B n c L q h C r a D _ _ _ _ _ (Qa rfl) rfl rfl rfl (Qa j) (Qa λw2 y=>?_);have i:=y.size;have A:∀ x,ZY w2.heap.size Xv Xv x->w2.heap.size<=x:=λx e=>by
   rcases e with e|e|e
   ·omega
   ·cases e
   cases e
  refine (Qjz S p R last v b B n c L w d q w2.heap.size g.ids (Qk4 d.few F) (by omega) o n r 0 n X0 a (QfI h o) ⟨by omega,λd=>absurd d (by omega)⟩ (λ_=>0) [] [] Xv Xv _ (y.alloc i _) (Qn5 w2) (λx e=>Xb6 i (A x e)) (by show 0+n<=_;omega) (by show 0+n<=_;omega) (λ_=>by show 0+_<=_;omega)).mono ?_;rintro e w' ⟨rfl,M,N,m,E⟩;obtain ⟨q1,q2⟩:=E.below ((Below.refl _ w2).alloc X0 _) A;rw [QV a,s] at m;simp only [Nat.zero_add,nil_append] at m;exact ⟨rfl,q1,M,N,m,λx e=>Xb6 i (q2 x e)⟩
 have l:ZG R L n=Zk (QF L) n:=by unfold ZG;rw [if_neg f]
 rw [l];exact QwI p ao n c w _ _ _ (by simpa [bne] using f) (Qa j)
end Go.Proofs.YtobgcaemnpkbmaaGreat
