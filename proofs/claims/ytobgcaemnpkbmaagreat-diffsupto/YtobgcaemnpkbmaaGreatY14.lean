import Derived.Test.YtobgcaemnpkbmaaGreatY13
import Derived.Test.YtobgcaemnpkbmaaGreatY08
namespace Go.Proofs.YtobgcaemnpkbmaaGreat
set_option maxRecDepth 100000
set_option maxHeartbeats 8000000
open Go.RowKit List
variable {last:Int} {R:List RN} {F k p:Nat} {S:Nat->Prop} {x:Qh} {v:Value} {w:World}
theorem Qu7 l nb a7 aD w q R last (a:Ql l nb a7 aD w q R last) (aE id pa bf aF:Int) (aG nm d:ByteArray) (k:Nat) (X:k<R.length) (b1:Qu R[k].id) (aW:R[k].id=id) (bn:Qx R) (aX:R[k].tag.toList.isEmpty=false) (au:nm.size<=maxLen) (b2:QK nm=true) (av:d.size<=maxLen) (b3:ZD d=true) (b4:d.size<=281474976710656) (b5:nm.size<=281474976710656) (al:Zu R[k].ats nm=false) (bO:R[k].ats.length<5) : Xl 89 #[Xp q,.agg #[Xi aE,Xi id,Xi pa,Xi bf,Xi aF,.string aG,.string nm,.string d]] w λe w'=>e=.returned (.bool true)/\∃ ρ',Zj l ρ' w w'/\Ql ρ' nb a7 aD w' q (R.set k { R[k] with ats:=QQ R[k].ats nm d }) last:=by
 subst aW;obtain ⟨bP,aH,m⟩:=a.node _ (Xa0 X);have aI:=Qj a.blk 1 (.map (some a7)) rfl;have b6:=Q9 a.blk;have b7:=Jf a X b1;have b8:=Qa3 a X (b:=true) (by rw [aX];rfl);have b9:Hid (∀ w1,Xl 97 #[.string nm] w1 λe w'=>e=.returned (.bool true)/\w1=w'):=Qa λw1=>(Qbn nm _ b2 au w1).mono λ_ _ a=>⟨a.1,a.2.symm⟩;have ba:Hid (∀ w1,Xl 99 #[.string d] w1 λe w'=>e=.returned (.bool true)/\w1=w'):=Qa λw1=>(QcU d _ b3 av w1).mono λ_ _ a=>⟨a.1,a.2.symm⟩;have bb:Hid (∀ w1,Xb w w1->Xl 106 #[Xp (nb R[k].id),.string nm] w1 λe w'=>e=.returned (.tuple #[Xi (QB R[k].ats nm),.bool false])/\Xb w1 w'):=Qa λw1 s=>by have:=QfZ (m.kept (R':=R) (w':=w1) (ρ':=l) (λb j e=>s.block b (a.low b (by rw [e];rfl))) (λ_ _=>rfl) rfl) nm;rw [al] at this;exact this
 obtain ⟨ao,c,rfl⟩:=Qy m.arow;have bC:=m.few;have bo:=Qj m.blk 4 (.slice ao R[k].ats.length c) rfl;have bp:=Qax m.blk 4;have a0:=m.lt;have bD:¬ (5:Int)<=(R[k].ats.length:Int):=by omega
 have bc:Hid (∀ w1,Xl 63 #[.string nm] w1 λe w'=>e=.returned (.string nm)/\Xb w1 w'):=Qa λw1=>Qc5 nm w1 b5;have bd:Hid (∀ w1,Xl 63 #[.string d] w1 λe w'=>e=.returned (.string d)/\Xb w1 w'):=Qa λw1=>Qc5 d w1 b4;have K:Hid (Value.ownBlock (.slice ao R[k].ats.length c)≠some (nb R[k].id)):=Qa λe=>by have:=m.arole _ e;rw [m.role] at this;have:=(Xb8 (Xb5 this)).2;omega
 have L:Hid (∀ b,Value.ownBlock (.slice ao R[k].ats.length c)=some b->b<w.heap.size):=Qa λb e=>(m.arow.lt b e).2;have aY:Hid (∀ D,Xb w D->∀ I,D.heap[I]?=some (.cells #[.string nm,Xo] 72 (0,0))->w.heap.size<=I->Xl 107 #[.slice ao R[k].ats.length c,Xi (QB R[k].ats nm),Xe I 1 1] D (Qev D (.slice ao R[k].ats.length c) R[k].ats.length (QS (R[k].ats.take (QB R[k].ats nm)++[(nm,⟨#[]⟩)]++R[k].ats.drop (QB R[k].ats nm))))):=by refine Qa λD s I a1 bE=>?_;have:=Qok (.slice ao R[k].ats.length c) R[k].ats.length (QB R[k].ats nm) I (QS R[k].ats) [.string nm,Xo] D (QX m.arow s) (QdL _ _) (by omega) (QeC _) rfl (by simp [Value.oneCell']) a1 (λe=>by have:=(m.arow.lt _ e).2;omega);rw [Qgt,Qgt,Qku,QkI];exact this
 have Y:=Qa a;have f:=Qa m;clear a m;go_enter Tryz.func89,Tryz.ntmps89;go_wp2_with fail;generalize z:w.alloc (.cells #[Xi aE,Xi R[k].id,Xi pa,Xi bf,Xi aF,.string aG,.string nm,.string d] 29)=aJ;have N:=Xt z;have a2:w.heap.size<aJ.heap.size:=by rw [<- z];simp
 have bQ:=Xz z 1 (Xi R[k].id) rfl;have bq:=Xz z 6 (.string nm) rfl;have br:=Xz z 7 (.string d) rfl;have bR:=(Xh N q 1 b6).trans aI;have bS:=λn=>b7.out (aJ.drewN n) (Qt N n);have O:=Qa N;clear z N aI;go_big_quiet (fail);go_wp2_with (first|(go_at_call 102;refine (Qb b8 _ (Qt (Qb O) _)).mono ?_;rintro e w1 ⟨rfl,rfl⟩)|(go_at_call 97;refine (Qb b9 _).mono ?_;rintro e w1 ⟨rfl,rfl⟩)|(go_at_call 99;refine (Qb ba _).mono ?_;rintro e w1 ⟨rfl,rfl⟩)|(go_at_call 106;refine (Qb bb _ (Qt (Qb O) _)).mono ?_;rintro e w1 ⟨rfl,G⟩;have a8:=(Xh G w.heap.size 6 a2).trans bq;have aK:=(Xh G w.heap.size 7 a2).trans br;have bg:=G.size;have aw:w.heap.size<w1.heap.size:=Xb4 a2 bg;have P:=Qa ((Qt (Qb O) _).trans (G.mono (Qb O).size));have a9:=((Qb P).cell (p:=(Xa (nb R[k].id) 4)) a0).trans bo;clear G));have ax:nb R[k].id<w1.heap.size:=by omega
 have aa:=(Xj P.out (nb R[k].id) 4 a0).trans bp;have bs:nb R[k].id≠w.heap.size:=by omega
 have ay:(λw'=>Xf w' (nb R[k].id) 4/\Xc w' (nb R[k].id) 4 (.slice ao R[k].ats.length c)/\Xc w' w.heap.size 6 (.string nm)) w1.drew:=⟨aa,a9,a8⟩;refine ZU (S:=(λw'=>w'.frozen? (Xa (nb R[k].id) 4)=false/\w'.cell? (Xa (nb R[k].id) 4)=some (.slice ao R[k].ats.length c)/\w'.cell? (Xa w.heap.size 6)=some (.string nm))) (by kernel_rfl) ?_;iterate 8
  apply Qbz ?_ ay ?_;rotate_left
  ·(intro w' hSw;(try dsimp only at hSw);simp only [Xq];go_simp;try (with_reducible rfl))
  simp only [Xq,Xr]
 refine Qbe 8 ?_;simp only [Xq];go_simp;refine (Qb bc _).mono ?_;rintro e w2 ⟨rfl,y⟩;have bT:w1.heap.size<=w2.heap.size:=y.size;have az:=Qa (P.out.trans (((Below.refl w1.heap.size w1).drew.trans y).mono P.out.size));have ab:=(Xh y (nb R[k].id) 4 ax).trans a9;have ac:=(Xj y (nb R[k].id) 4 ax).trans aa;have ad:=(Xh y w.heap.size 6 aw).trans a8;have aL:=(Xh y w.heap.size 7 aw).trans aK;refine ⟨.inr ⟨ac,ab,ad⟩,?_⟩;clear y ay a9 aa a8 aK;try simp only [Xr]
 refine Qbe 9 ?_;simp only [Xq];go_simp;refine Qbe 10 ?_;simp only [Xq];go_simp;generalize T:w2.alloc (.cells #[.string nm,Xo] 72)=w3;have a1:w3.heap[w2.heap.size]?=some (.cells #[.string nm,Xo] 72 (0,0)):=by rw [<- T];exact Xc5 w2 _
 have A:=Xt T;have ae:=X1 T;have aA:nb R[k].id<w2.heap.size:=by omega
 have aB:w.heap.size<w2.heap.size:=by omega
 have af:=(Xh A (nb R[k].id) 4 aA).trans ab;have ag:=(Xj A (nb R[k].id) 4 aA).trans ac;have ah:=(Xh A w.heap.size 6 aB).trans ad;have aM:=(Xh A w.heap.size 7 aB).trans aL;have B:=Qa (az.out.trans (A.mono az.out.size));have bt:=Qa ae;have bF:w2.heap.size<w3.heap.size:=by omega
 refine ⟨.inr ⟨ag,af,ah⟩,?_⟩;clear T A ae ab ac ad aL;refine Qbe 11 ?_;simp only [Xq];go_simp;refine (aY.out w3 B.out w2.heap.size a1 (by omega)).mono ?_;rintro e w4 ⟨bu,rfl,M,U,aN⟩;obtain ⟨g,u,rfl⟩:∃ g u,bu=Xe g (R[k].ats.length+1) u:=by
  rcases M.2 with ⟨_,e⟩|⟨g,bh,bG,e,_⟩
  ·omega
  exact ⟨g,bh,e⟩
 have bU:w3.heap.size<=w4.heap.size:=U.size;have V:Value.ownBlock (.slice ao R[k].ats.length c)=some g \/ w3.heap.size<=g:=by
  rcases aN with a|⟨bV,a,bi⟩
  ·exact .inl a.symm
  cases a;exact .inr bi
 have a3:=Qa V;have bH:g<w4.heap.size:=(M.lt g rfl).2;have aO:g≠nb R[k].id:=by
  rcases V with a|a
  ·exact λe=>K.out (by rw [a,e])
  omega
 have bv:g≠w.heap.size:=by
  rcases V with a|a
  ·have:=L.out g a;omega
  omega
 have C:∀ b,b<w3.heap.size->Value.ownBlock (.slice ao R[k].ats.length c)≠some b->w4.heap[b]?=w3.heap[b]?:=λb s J=>U.block b s (λe=>J e.symm);have ai:=(Xk (nb R[k].id) 4 (C (nb R[k].id) (by omega) K.out)).trans af;have aP:=(Xm (nb R[k].id) 4 (C (nb R[k].id) (by omega) K.out)).trans ag;have aQ:=(Xk w.heap.size 6 (C w.heap.size (by omega) (λe=>by have:=L.out w.heap.size e;omega))).trans ah;have aR:=(Xk w.heap.size 7 (C w.heap.size (by omega) (λe=>by have:=L.out w.heap.size e;omega))).trans aM;have aZ:=Qa M;have a4:=Qa U;have aC:=Qa C;refine ⟨.inr ⟨aP,ai,aQ⟩,?_⟩;clear M U aN V C af ag ah aM;refine Qbe 12 ?_;simp only [Xq];go_simp;refine Qbe 13 ?_;simp only [Xq];go_simp;refine Qbe 14 ?_;simp only [Xq];go_simp;refine ⟨by kernel_rfl,?_⟩;refine ZP (by kernel_rfl) ?_ _;generalize t:w4.setCell (Xa (nb R[k].id) 4) (Xe g (R[k].ats.length+1) u)=h;have aS:h.heap.size=w4.heap.size:=by rw [<- t];exact QJ _ _ _
 have bW:h.cell? (Xa (nb R[k].id) 4)=some (Xe g (R[k].ats.length+1) u):=by rw [<- t];exact Xc9 _ _ _ ai
 have bX:h.cell? (Xa w.heap.size 7)=some (.string d):=by rw [<- t,World.cell?_of_block (X5 (Ne.symm bs))];exact aR
 have F:h.ownsRow 0 72 2 (Xe g (R[k].ats.length+1) u) (R[k].ats.length+1) (QS (R[k].ats.take (QB R[k].ats nm)++[(nm,⟨#[]⟩)]++R[k].ats.drop (QB R[k].ats nm))):=by rw [<- t];exact Q8 aZ.out λb e=>X5 (by cases e;exact aO)
 have bB:QB R[k].ats nm<R[k].ats.length+1:=by have:=QdL R[k].ats nm;omega
 obtain ⟨aT,pv⟩:∃ aT,h.cell? (Xa g (QB R[k].ats nm*2+1))=some aT:=by rw [F.cellAt _ (by omega)];exact ⟨_,Xa1 (by have:=F.1;omega)⟩
 have bY:=F.frozenAt (QB R[k].ats nm*2+1);have bj:Hid (∀ b,b<w.heap.size->b≠nb R[k].id->Value.ownBlock (.slice ao R[k].ats.length c)≠some b->h.heap[b]?=w.heap[b]?):=Qa λb s E aj=>by rw [<- t,X5 E,aC.out b (by omega) aj];exact B.out.block b s
 have bk:Hid (h.heap[nb R[k].id]?=some (.cells (QcI nb { R[k] with ats:=QQ R[k].ats nm d } (Xe g (R[k].ats.length+1) u) aH) 138 (0,0))):=by rw [<- t];exact Qa (QcJ (i:=4) (((aC.out (nb R[k].id) (by omega) K.out).trans (B.out.block _ a0)).trans f.out.blk) _)
 have a5:Hid (h.os=w.os/\h.tape=w.tape/\h.output=w.output):=by rw [<- t];exact Qa ⟨a4.out.os.trans B.out.os,a4.out.tape.trans B.out.tape,a4.out.output.trans B.out.output⟩
 have bl:=Qa F;have bZ:=Qa aS;have bI:g<h.heap.size:=by omega
 have bm:nb R[k].id<h.heap.size:=by omega
 have bJ:w.heap.size<h.heap.size:=by omega
 have bK:w3.heap.size<=h.heap.size:=by omega
 have bL:(0:Int)<=(QB R[k].ats nm:Int):=by omega
 have bM:(QB R[k].ats nm:Int)<(R[k].ats.length:Int)+1:=by omega
 have aU:nb R[k].id≠g:=λe=>aO e.symm;have bw:w.heap.size≠g:=λe=>bv e.symm;clear t ai aP aQ aR F aS;go_wp2_with fail
 go_region_held3 (λw'=>w'.frozen? (Xa g (QB R[k].ats nm*2+1))=false/\w'.cell? (Xa (nb R[k].id) 4)=some (Xe g (R[k].ats.length+1) u)/\w'.cell? (Xa w.heap.size 7)=some (.string d))
   (first
     | go_keep
     | (go_split_ands
        refine ⟨?_,?_,?_⟩
        · (rw [H.frozen (by simp;omega)];assumption)
        · (rw [H.cell (by simp;omega)];assumption)
        · (rw [H.cell (by simp;omega)];assumption))
     | (go_split_ands
        refine ⟨?_,?_,?_⟩
        · (rw [World.frozen?_setCell];assumption)
        · (first|(rw [World.cell?_of_block (X5 aU)];assumption)|go_keep)
        · (first|(rw [World.cell?_of_block (X5 bw)];assumption)|go_keep)))
   ((go_at_call 63;refine (Qb bd _).mono ?_;rintro e ak ⟨rfl,H⟩;have c0:=(Xh H g (QB R[k].ats nm*2+1) (by (try simp);omega)).trans pv))
 go_wp2;go_ret;have v:Xb h ak:=(Below.refl h.heap.size h).drew.trans H;have c1:=v.size;have ae:=bt.out;have bN:=L.out;have ap:∀ b,b<w.heap.size->b≠nb R[k].id->b≠g->Value.ownBlock (.slice ao R[k].ats.length c)≠some b->(ak.setCell (Xa g (QB R[k].ats nm*2+1)) (.string d)).heap[b]?=w.heap[b]?:=λb s E aj bx => (X5 aj).trans ((v.block b (by omega)).trans (bj.out b s E bx));have a6:=((QX bl.out v).stored (QB R[k].ats nm*2+1) (.string d)).1;rw [Qo8 f.out.rise al] at a6;have b0:(QQ R[k].ats nm d).length=R[k].ats.length+1:=by have:=a6.1;rw [Qei] at this;omega
 have aq:(l g).isSome=true->l g=some (R[k].id,1):=λo=>by
  rcases a3.out with a|a
  ·exact f.out.arole g a
  have:=Y.out.low g o;omega
 have W:∀ b,(l b).isSome=true->(if b=g then some (R[k].id,1) else l b)=l b:=λb o=>by
  by_cases e:b=g
  ·subst e;rw [if_pos rfl,aq o]
  rw [if_neg e]
 have ar:∀ b r,l b=some r->r≠(R[k].id,0)->r≠(R[k].id,1)->(ak.setCell (Xa g (QB R[k].ats nm*2+1)) (.string d)).heap[b]?=w.heap[b]?:=λb r e bz E=>by
  refine ap b (Y.out.low b (by rw [e];rfl)) (λx=>bz ?_) (λx=>E ?_) (λx=>E ?_)
  ·rw [x,f.out.role] at e;exact (Xb5 e).symm
  ·rw [x,aq (by rw [e];rfl)] at e;exact (Xb5 e).symm
  rw [f.out.arole b x] at e;exact (Xb5 e).symm
 refine ⟨rfl,λb=>if b=g then some (R[k].id,1) else l b,⟨⟨v.os.trans a5.out.1,v.tape.trans a5.out.2.1,v.output.trans a5.out.2.2,by rw [QJ];omega,λb s J=>?_⟩,W,λb o=>?_⟩,?_⟩
 ·by_cases e:b=g
  ·subst e;rcases a3.out with a|a
   ·exact absurd (by rw [f.out.arole b a];rfl) J
   omega
  exact ap b s (λe=>J (by rw [e,f.out.role];rfl)) e (λe=>J (by rw [f.out.arole b e];rfl))
 ·by_cases e:b=g
  ·subst e;rcases a3.out with a|a
   ·exact .inl (by rw [f.out.arole b a];rfl)
   exact .inr (by omega)
  replace o:(if b=g then some (R[k].id,1) else l b).isSome=true:=o;rw [if_neg e] at o;exact .inl o
 refine Ql.put (n':={ R[k] with ats:=QQ R[k].ats nm d }) (av':=Xe g (R[k].ats.length+1) u) (kv':=aH) Y.out bn X rfl rfl W (λb o=>?_) (λb r e aV=>ar b r e (λx=>aV (by rw [x])) (λx=>aV (by rw [x]))) ⟨?_,(W _ (by rw [f.out.role];rfl)).trans f.out.role,?_,?_,?_,λb e=>(W b (by rw [f.out.krole b e];rfl)).trans (f.out.krole b e),?_,Qgg f.out.rise,f.out.tag,f.out.text,λx bA=>(Qgu bA).elim (f.out.size x) (λe=>by rw [e];exact ⟨au,av⟩)⟩
 ·rw [QJ];by_cases e:b=g
  ·omega
  replace o:(if b=g then some (R[k].id,1) else l b).isSome=true:=o;rw [if_neg e] at o;have:=Y.out.low b o;omega
 ·exact (X5 aU).trans ((v.block _ bm).trans bk.out)
 ·show World.ownsRow _ _ _ _ _ (QQ R[k].ats nm d).length _;rw [b0];exact a6
 ·intro b e;cases e;show (if g=g then some (R[k].id,1) else l g)=_;rw [if_pos rfl]
 ·exact Q8 f.out.krow λb e=>ar b _ (f.out.krole b e) (λx=>by have:=(Xb8 x).2;omega) (λx=>by have:=(Xb8 x).2;omega)
 show (QQ R[k].ats nm d).length<=5;omega
def PN.none:PN:=⟨0,0,⟨#[]⟩,0,⟨#[]⟩,[]⟩
def JZ (R:List RN) (k:Nat):RN:=match R[k]? with|some n=>n|none=>PN.none.bare
theorem JT (a:k<R.length):JZ R k=R[k]:=by unfold JZ;rw [getElem?_eq_getElem a]
theorem QiO (R:List RN) (k:Nat):JZ (QA R) k=(JZ R k).bare:=by unfold JZ QA;rw [getElem?_map];cases R[k]?<;>rfl
open Classical in
noncomputable def insB (R:List RN) (x:Qh):Bool :=
 x.name.toList.isEmpty&&x.text.toList.isEmpty&&!(x.id==1)&&decide (0<=Qk R x.par)&&!(JZ R (Qk R x.par).toNat).tag.toList.isEmpty &&
  (!(x.bef !=0)||(decide (0<=Qk R x.bef)&&!((JZ R (Qk R x.bef).toNat).par !=x.par)&&!(x.bef==x.id)))&&!decide (Qbi R x.par x.id)
def Qcv (x:Qh):Bool:=x.name.toList.isEmpty&&x.text.toList.isEmpty&&!(x.id==1)
def Qcq (n:RN) (x:Qh):Bool:=x.name.toList.isEmpty&&decide ((x.text.size:Int)<=20)&&n.tag.toList.isEmpty
def Qcb (n:RN) (x:Qh):Bool:=decide ((QI n.ats x.name).length<n.ats.length)
def Qbv (n:RN) (x:Qh):Bool:=QK x.name&&!n.tag.toList.isEmpty&&decide ((x.text.size:Int)<=20)&&(Qcb n x||decide (n.ats.length<5))
def QbY (n:RN) (x:Qh):Bool:=QK x.name&&!n.tag.toList.isEmpty&&decide ((x.text.size:Int)<=20)&&Qcb n x&&x.text.toList.isEmpty
def ZI (R:List RN) (x:Qh):RN:=JZ R (Qk R x.id).toNat
noncomputable def canP (R:List RN) (last:Int) (x:Qh):Bool :=
 if (x.kind==1)=true then Jy R.length last x
 else decide (0<=Qk R x.id)&&!(x.key !=0)&&x.tag.toList.isEmpty &&
  (if (x.kind==2)=true then insB R x
   else !(x.par !=0)&&!(x.bef !=0) &&
    (if (x.kind==3)=true then Qcv x else if (x.kind==6)=true then Qcq (ZI R x) x else if (x.kind==4)=true then Qbv (ZI R x) x else if (x.kind==5)=true then QbY (ZI R x) x else false))
def QN (R:List RN) (x:Qh):List RN :=
 if (x.kind==1)=true then R++[Qer x]
 else if (x.kind==2)=true then QM R { ZI R x with par:=x.par } (Qk R x.id).toNat x.bef
 else if (x.kind==3)=true then Jl R (Qo R R.length (Qk R x.id).toNat 0)
 else if (x.kind==6)=true then R.set (Qk R x.id).toNat { ZI R x with text:=x.text }
 else if (x.kind==4)=true then R.set (Qk R x.id).toNat { ZI R x with ats:=QQ (ZI R x).ats x.name x.text }
 else R.set (Qk R x.id).toNat { ZI R x with ats:=QI (ZI R x).ats x.name }
def Jz (last:Int) (x:Qh):Int:=if (x.kind==1)=true then x.id else last
theorem Qmy (R:List RN) (x:Qh):ZI (QA R) x=(ZI R x).bare:=by unfold ZI;rw [Qda,QiO]
theorem Qhh (R:List RN) (last:Int) (x:Qh):canP (QA R) last x=canP R last x:=by unfold canP insB;rw [Qah,Qda,Qda,Qda,Qmy,QiO,QiO];have a:Qbi (QA R) x.par x.id=Qbi R x.par x.id:=propext (Qpy R x.par x.id);rw [a];rfl
theorem QgC (R:List RN) (x:Qh):QA (QN R x)=QN (QA R) x:=by
 unfold QN;rw [Qah,Qda,Qmy,Qjd];by_cases a:(x.kind==1)=true
 ·rw [if_pos a,if_pos a,Qff];rfl
 rw [if_neg a,if_neg a];by_cases b:(x.kind==2)=true
 ·rw [if_pos b,if_pos b,Qsp];rfl
 rw [if_neg b,if_neg b];by_cases c:(x.kind==3)=true
 ·rw [if_pos c,if_pos c,Qo4]
 rw [if_neg c,if_neg c];by_cases d:(x.kind==6)=true
 ·rw [if_pos d,if_pos d,QdN];rfl
 rw [if_neg d,if_neg d];by_cases f:(x.kind==4)=true
 ·rw [if_pos f,if_pos f,QdN];rfl
 rw [if_neg f,if_neg f,QdN];rfl
def Qeo (S:Nat->Prop) (p:Nat) (R:List RN) (last:Int) (v:Value) (x:Qh) (w:World) (e:Ending) (w':World):Prop :=
 e=.returned (.bool (canP R last x))/\Qi (pv p v) w w' /\
  ∃ R' a b,Qay S w w' p R' a v b/\Qw R' a/\Qau (canP R last x) (QA R'=QA (QN R x)/\a=Jz last x) (R'=R/\a=last)
theorem Z5 (i:Qq S w p R last v) (c:Qw R last) (d:canP R last x=false) {a:Array Value} (f:Xl F a w λe w'=>e=.returned (.bool false)/\Xb w w'):Xl F a w (Qeo S p R last v x w):=by refine f.mono λe w' g=>?_;obtain ⟨rfl,b⟩:=g;unfold Qeo;rw [d];exact ⟨rfl,Qi.of_below b,R,last,v,⟨(i.below b).mono λ_ _ h=>.inl h,λ_ e=>.inl e⟩,c,.no ⟨rfl,rfl⟩⟩
theorem QdU {T:Nat->Prop} (i:∀ b,T b->pv p v b) (j:canP R last x=true) (d:(x.kind==1)=false) {a:Array Value} {P:List RN->Prop} (l:Xl F a w λe w'=>e=.returned (.bool true)/\Qi T w w'/\∃ R' f,Qay S w w' p R' last v f/\P R') (g:∀ R',P R'->Qw R' last/\QA R'=QA (QN R x)):Xl F a w (Qeo S p R last v x w):=by refine l.mono λe w' m=>?_;obtain ⟨rfl,c,R',f,n,h⟩:=m;unfold Qeo;rw [j];exact ⟨rfl,⟨c.os,c.tape,c.output,c.size,λk d o=>c.block k d λq=>o (i _ q)⟩,R',last,f,n,(g R' h).1,.yes ⟨(g R' h).2,by unfold Jz;rw [d];rfl⟩⟩
theorem QiT (R:List RN) (id:Int):Qk R id=-1 \/ ∃ k,∃ a:k<R.length,Qk R id=(k:Int)/\R[k].id=id:=by unfold Qk;cases c:R.findIdx? (λn=>n.id==id) with| none=>exact .inl rfl| some k =>obtain ⟨a,b,_⟩:=findIdx?_eq_some_iff_getElem.1 c;exact .inr ⟨k,a,rfl,by simpa using b⟩
theorem QcC {b:Bool} (a:¬ b=false):b=true:=by cases b<;>simp_all
theorem not_true {b:Bool} (a:¬ b=true):b=false:=by cases b<;>simp_all
theorem QkP S p R (last:Int) v (x:Qh) (ax:x.Ok) w (aA:last<=4611686018427387904) (q:Qw R last) (a:Qq S w p R last v) : Xl 37 #[Xp p,x.val] w (Qeo S p R last v x w):=by
 by_cases c:(x.kind==1)=true
 ·have h:x.kind=1:=by simpa using c
  have aJ:=q.last_pos;have z:canP R last x=Jy R.length last x:=by unfold canP;rw [if_pos c]
  refine (Qv1 S p R last v x ax h w (by omega) aA a).mono λe w' aE=>?_;obtain ⟨rfl,ar,ay⟩:=aE;unfold Qeo;rw [z];refine ⟨rfl,ar,?_⟩;cases Y:Jy R.length last x with
  | true =>
   obtain ⟨M,au⟩:=ay.1 Y;have E:x.id=last+1:=by unfold Jy at Y;simp only [Bool.and_eq_true,beq_iff_eq] at Y;exact Y.1.1.1.1.2
   exact ⟨_,_,M,au,q.more (n:=Qer x) (by show last<x.id;omega) rfl,.yes ⟨by unfold QN;rw [if_pos c],by unfold Jz;rw [if_pos c]⟩⟩
  | false=>exact ⟨R,last,v,⟨(ay.2 Y).mono λ_ _ aF=>.inl aF,λ_ e=>.inl e⟩,q,.no ⟨rfl,rfl⟩⟩
 replace c:=not_true c;obtain ⟨f,id,pa,bf,m,o,nm,g⟩:=x;obtain ⟨ar,V,aB⟩:=ax;simp only at c ar V aB;unfold Qh.val;simp only [];rcases QiT R id with j|⟨k,h,j,ah⟩
 ·exact Z5 a q (by simp [canP,c,j]) (QuK S p R last v f id pa bf m o nm g w a c j)
 have aa:ZI R ⟨f,id,pa,bf,m,o,nm,g⟩=R[k]:=by unfold ZI;simp only [j];exact JT h
 by_cases r:(m !=0)=true
 ·exact Z5 a q (by simp [canP,c,r]) (QqZ S p R last v f id pa bf m o nm g w a c k h j r)
 replace r:=not_true r;by_cases u:o.toList.isEmpty=false
 ·exact Z5 a q (by simp [canP,c,u]) (Qpr S p R last v f id pa bf m o nm g w a c k h j r u)
 replace u:=QcC u;obtain ⟨rk,a5⟩:=q.up;have aG:=q.ids.pos _ (Xa0 h);by_cases C:(f==2)=true
 ·have F:f=2:=by simpa using C
  have z:canP R last ⟨f,id,pa,bf,m,o,nm,g⟩=insB R ⟨f,id,pa,bf,m,o,nm,g⟩:=by simp [canP,c,j,r,u,C]
  by_cases A:nm.toList.isEmpty=false
  ·exact Z5 a q (by rw [z];simp [insB,A]) (QwY S p R last v f id pa bf m o nm g w a c k h j r u F A _ _ rfl rfl)
  replace A:=QcC A;by_cases B:g.toList.isEmpty=false
  ·exact Z5 a q (by rw [z];simp [insB,B]) (QuN S p R last v f id pa bf m o nm g w a c k h j r u F A B _ _ rfl rfl)
  replace B:=QcC B;by_cases E:(id==1)=true
  ·exact Z5 a q (by rw [z];simp [insB,E]) (Qqs S p R last v f id pa bf m o nm g w a c k h j r u F A B E _ _ rfl rfl)
  replace E:=not_true E;rcases QiT R pa with W|⟨t,a3,W,ag⟩
  ·exact Z5 a q (by rw [z];simp [insB,W]) (Qti S p R last v f id pa bf m o nm g w a c k h j r u F A B E _ W rfl)
  have aC:JZ R (Qk R pa).toNat=R[t]:=by rw [W];exact JT a3
  by_cases y:R[t].tag.toList.isEmpty=true
  ·exact Z5 a q (by rw [z];simp [insB,aC,y]) (QoC S p R last v f id pa bf m o nm g w a c k h j r u F A B E t a3 W y _ rfl)
  replace y:=not_true y;have af:∃ n,n ∈ R/\n.id=pa:=⟨R[t],Xa0 a3,ag⟩;have ai:id≠0:=by omega
  have aj:R[k].id≠1:=by rw [ah];simpa using E
  have av:QN R ⟨f,id,pa,bf,m,o,nm,g⟩=QM R { R[k] with par:=pa } k bf:=by unfold QN;rw [aa];simp only [c,C,j];rfl
  by_cases s:(bf !=0)=true
  ·rcases QiT R bf with a8|⟨b,Y,a8,az⟩
   ·exact Z5 a q (by rw [z];simp [insB,s,a8]) (Qsw S p R last v f id pa bf m o nm g w a c k h j r u F A B E t a3 W y s a8)
   have aD:JZ R (Qk R bf).toNat=R[b]:=by rw [a8];exact JT Y
   by_cases a9:(R[b].par !=pa)=true
   ·exact Z5 a q (by rw [z];simp [insB,s,aD,a9]) (Qow S p R last v f id pa bf m o nm g w a c k h j r u F A B E t a3 W y s b Y a8 a9)
   replace a9:=not_true a9;by_cases ab:(bf==id)=true
   ·exact Z5 a q (by rw [z];simp [insB,s,ab]) (QrR S p R last v f id pa bf m o nm g w a c k h j r u F A B E t a3 W y s b Y a8 a9 ab)
   replace ab:=not_true ab;have ad:bf=0 \/ ∃ i,i<R.length/\Qg R i=bf:=.inr ⟨b,Y,by rw [QV Y,az]⟩;by_cases L:Zs R (rk pa+1) pa id=true
   ·have:=(Qg0 a5 q.ids ai af).1 L;exact Z5 a q (by rw [z];simp [insB,this]) (QuM S p R last v f id pa bf m o nm g w a c k h j r u F A B E t a3 W ag y s b Y a8 a9 ab rk a5 L)
   replace L:=not_true L;have ap:=(Qgv a5 q.ids ai af).1 L;refine QdU (T:=λb=>b=p) (P:=λR'=>R'=QM R { R[k] with par:=pa } k bf) (λb e=>.inl e) (by rw [z];simp [insB,A,B,E,JT a3,y,s,JT Y,a9,ab,ap,W,a8]) c ((QvT S p R last v f id pa bf m o nm g w a c k h j r u F A B E t a3 W ag y s b Y a8 a9 ab j (by rw [Qhb q.ids h ad];exact a.few) (Qdn q.ids h ad) rk a5 L).mono λe w' ⟨a0,a1,M,a2⟩=>⟨a0,a1,_,M,a2,rfl⟩) λR' e=>?_;subst e;exact ⟨q.ins a5 h aj ad af (by rw [ah];exact L),by rw [av]⟩
  replace s:=not_true s;have ad:bf=0 \/ ∃ i,i<R.length/\Qg R i=bf:=.inl (by simpa using s);by_cases L:Zs R (rk pa+1) pa id=true
  ·have:=(Qg0 a5 q.ids ai af).1 L;exact Z5 a q (by rw [z];simp [insB,this]) (QwF S p R last v f id pa bf m o nm g w a c k h j r u F A B E t a3 W ag y s _ rfl rk a5 L)
  replace L:=not_true L;have ap:=(Qgv a5 q.ids ai af).1 L;refine QdU (T:=λb=>b=p) (P:=λR'=>R'=QM R { R[k] with par:=pa } k bf) (λb e=>.inl e) (by rw [z];simp [insB,A,B,E,JT a3,y,s,ap,W]) c ((QtM S p R last v f id pa bf m o nm g w a c k h j r u F A B E t a3 W ag y s _ rfl j (by rw [Qhb q.ids h ad];exact a.few) (Qdn q.ids h ad) rk a5 L).mono λe w' ⟨a0,a1,M,a2⟩=>⟨a0,a1,_,M,a2,rfl⟩) λR' e=>?_;subst e;exact ⟨q.ins a5 h aj ad af (by rw [ah];exact L),by rw [av]⟩
 replace C:=not_true C;have K:(f !=2)=true:=by simpa using C
 by_cases D:(pa !=0)=true
 ·exact Z5 a q (by simp [canP,c,C,D]) (Qrd S p R last v f id pa bf m o nm g w a c k h j r u K D)
 replace D:=not_true D;by_cases s:(bf !=0)=true
 ·exact Z5 a q (by simp [canP,c,C,s]) (Qwl S p R last v f id pa bf m o nm g w a c k h j r u K D s)
 replace s:=not_true s;by_cases G:(f==3)=true
 ·have F:f=3:=by simpa using G
  have z:canP R last ⟨f,id,pa,bf,m,o,nm,g⟩=Qcv ⟨f,id,pa,bf,m,o,nm,g⟩:=by simp [canP,c,C,j,r,u,D,s,G]
  by_cases A:nm.toList.isEmpty=false
  ·exact Z5 a q (by rw [z];simp [Qcv,A]) (Qtr S p R last v f id pa bf m o nm g w a c k h j r u D s F A)
  replace A:=QcC A;by_cases B:g.toList.isEmpty=false
  ·exact Z5 a q (by rw [z];simp [Qcv,B]) (QtZ S p R last v f id pa bf m o nm g w a c k h j r u D s F A B)
  replace B:=QcC B;by_cases E:(id==1)=true
  ·exact Z5 a q (by rw [z];simp [Qcv,E]) (Qwa S p R last v f id pa bf m o nm g w a c k h j r u D s F A B E)
  replace E:=not_true E;have aj:R[k].id≠1:=by rw [ah];simpa using E
  have al:=Qae a5 h;have aI:=Qgn a5 q.ids al (d:=0);have aH:=a.few;refine QdU (T:=λb=>b=p) (P:=λR'=>R'=Jl R (Qo R R.length k 0)) (λb e=>.inl e) (by rw [z];simp [Qcv,A,B,E]) c ((Qtj S p R last v f id pa bf m o nm g w a c k h j r u D s F A B E R.length (by omega) al (by omega)).mono λe w' ⟨a0,a1,M,a2⟩=>⟨a0,a1,_,M,a2,rfl⟩) λR' e=>?_;subst e;refine ⟨q.rem al h aj,?_⟩;unfold QN;simp only [c,C,G,j];rfl
 replace G:=not_true G;by_cases H:(f==6)=true
 ·have F:f=6:=by simpa using H
  have z:canP R last ⟨f,id,pa,bf,m,o,nm,g⟩=Qcq R[k] ⟨f,id,pa,bf,m,o,nm,g⟩:=by simp [canP,c,C,j,r,u,D,s,G,H,aa]
  by_cases A:nm.toList.isEmpty=false
  ·exact Z5 a q (by rw [z];simp [Qcq,A]) (Qo7 S p R last v f id pa bf m o nm g w a c k h j r u D s F A)
  replace A:=QcC A;by_cases I:¬ ((g.size:Int)<=20)
  ·exact Z5 a q (by rw [z];unfold Qcq;rw [decide_eq_false (by exact I)];simp) (Qpb S p R last v f id pa bf m o nm g w a c k h j r u D s F A (by omega))
  replace I:=Decidable.not_not.1 I;by_cases y:R[k].tag.toList.isEmpty=false
  ·exact Z5 a q (by rw [z];simp [Qcq,y]) (Qpc S p R last v f id pa bf m o nm g w a c k h j r u D s F A I y)
  replace y:=QcC y;refine QdU (T:=pv p v) (P:=λR'=>R'=R.set k { R[k] with text:=g }) (λb e=>e) (by rw [z];unfold Qcq;rw [decide_eq_true (by exact I)];simp [A,y]) c ((QnV S p R last v f id pa bf m o nm g w a c k h j r u D s F A I y).mono λe w' ⟨a0,a1,M,a2⟩=>⟨a0,a1,_,M,a2,rfl⟩) λR' e=>?_;subst e;refine ⟨q.put h rfl rfl,?_⟩;unfold QN;rw [aa];simp only [c,C,G,H,j];rfl
 replace H:=not_true H;have a4:=a.node _ (Xa0 h);by_cases a7:(f==4)=true
 ·have F:f=4:=by simpa using a7
  have z:canP R last ⟨f,id,pa,bf,m,o,nm,g⟩=Qbv R[k] ⟨f,id,pa,bf,m,o,nm,g⟩:=by simp [canP,c,C,j,r,u,D,s,G,H,a7,aa]
  have U:(f !=4)=false:=by simpa using a7
  have X:(f==5)=false:=by rw [F];rfl
  by_cases J:QK nm=false
  ·exact Z5 a q (by rw [z];simp [Qbv,J]) (QwH S p R last v f id pa bf m o nm g w a c k h j r u D s C G H K V _ J U rfl)
  replace J:=QcC J;by_cases y:R[k].tag.toList.isEmpty=true
  ·exact Z5 a q (by rw [z];simp [Qbv,y]) (Qtx S p R last v f id pa bf m o nm g w a c k h j r u D s C G H K V _ J U rfl y)
  replace y:=not_true y;by_cases I:¬ ((g.size:Int)<=20)
  ·exact Z5 a q (by rw [z];unfold Qbv;rw [decide_eq_false (by exact I)];simp) (QqW S p R last v f id pa bf m o nm g w a c k h j r u D s C G H K V _ J U rfl y (by omega))
  replace I:=Decidable.not_not.1 I;have aw:∀ R',(∃ N O,R'=R.set k { R[k] with ats:=QQ R[k].ats nm g,ao:=N,an:=(QQ R[k].ats nm g).length,ac:=O })->Qw R' last/\QA R'=QA (QN R ⟨f,id,pa,bf,m,o,nm,g⟩):=by rintro R' ⟨N,O,rfl⟩;refine ⟨q.put h rfl rfl,?_⟩;unfold QN;rw [aa];simp only [c,C,G,H,a7,j];rw [QdN];simp only [Bool.false_eq_true,if_false,if_true];rw [QdN];rfl
  by_cases a6:(QI R[k].ats nm).length<R[k].an
  ·have aq:=Qnj (nm:=nm) (vl:=g) (l:=R[k].ats) (by rw [<- a4.an];exact a4.few) (.inl (by rw [<- a4.an];exact a6));exact QdU (T:=pv p v) (P:=λR'=>∃ N O,R'=R.set k { R[k] with ats:=QQ R[k].ats nm g,ao:=N,an:=(QQ R[k].ats nm g).length,ac:=O }) (λb e=>e) (by rw [z];unfold Qbv Qcb;rw [decide_eq_true (by exact I),decide_eq_true (by rw [<- a4.an];exact a6)];simp [J,y]) c ((QoK S p R last v f id pa bf m o nm g w a c k h j r u D s C G H K V J y I U X a6 aq).mono λe w' ⟨a0,a1,M,N,O,a2⟩=>⟨a0,a1,_,M,a2,N,O,rfl⟩) aw
  by_cases ak:R[k].an<5
  ·have aq:=Qnj (nm:=nm) (vl:=g) (l:=R[k].ats) (by rw [<- a4.an];exact a4.few) (.inr (by rw [<- a4.an];exact ak));exact QdU (T:=pv p v) (P:=λR'=>∃ N O,R'=R.set k { R[k] with ats:=QQ R[k].ats nm g,ao:=N,an:=(QQ R[k].ats nm g).length,ac:=O }) (λb e=>e) (by rw [z];unfold Qbv Qcb;rw [decide_eq_true (by exact I),decide_eq_true (p:=R[k].ats.length<5) (by rw [<- a4.an];exact ak)];simp [J,y]) c ((Qvc S p R last v f id pa bf m o nm g w a c k h j r u D s C G H K V J y I U X (by omega) ak aq).mono λe w' ⟨a0,a1,M,N,O,a2⟩=>⟨a0,a1,_,M,a2,N,O,rfl⟩) aw
  exact Z5 a q (by rw [z];unfold Qbv Qcb;rw [decide_eq_false (p:=(QI R[k].ats nm).length<R[k].ats.length) (by rw [<- a4.an];exact a6),decide_eq_false (p:=R[k].ats.length<5) (by rw [<- a4.an];exact ak)];simp) (Qn8 S p R last v f id pa bf m o nm g w a c k h j r u D s C G H K V J y I U X (by omega) (by omega))
 replace a7:=not_true a7;have U:(f !=4)=true:=by simpa using a7
 by_cases X:(f==5)=true
 ·have F:f=5:=by simpa using X
  have z:canP R last ⟨f,id,pa,bf,m,o,nm,g⟩=QbY R[k] ⟨f,id,pa,bf,m,o,nm,g⟩:=by simp [canP,c,C,j,r,u,D,s,G,H,a7,X,aa]
  have ae:(f !=5)=false:=by simpa using X
  by_cases J:QK nm=false
  ·exact Z5 a q (by rw [z];simp [QbY,J]) (QwL S p R last v f id pa bf m o nm g w a c k h j r u D s C G H K V _ J U ae rfl)
  replace J:=QcC J;by_cases y:R[k].tag.toList.isEmpty=true
  ·exact Z5 a q (by rw [z];simp [QbY,y]) (Qr9 S p R last v f id pa bf m o nm g w a c k h j r u D s C G H K V _ J U ae rfl y)
  replace y:=not_true y;by_cases I:¬ ((g.size:Int)<=20)
  ·exact Z5 a q (by rw [z];unfold QbY;rw [decide_eq_false (by exact I)];simp) (QrH S p R last v f id pa bf m o nm g w a c k h j r u D s C G H K V _ J U ae rfl y (by omega))
  replace I:=Decidable.not_not.1 I;by_cases a6:¬ ((QI R[k].ats nm).length<R[k].an)
  ·exact Z5 a q (by rw [z];unfold QbY Qcb;rw [decide_eq_false (p:=(QI R[k].ats nm).length<R[k].ats.length) (by rw [<- a4.an];exact a6)];simp) (Qve S p R last v f id pa bf m o nm g w a c k h j r u D s C G H K V J y I U ae X (by omega))
  replace a6:=Decidable.not_not.1 a6;by_cases B:g.toList.isEmpty=false
  ·exact Z5 a q (by rw [z];simp [QbY,B]) (QwX S p R last v f id pa bf m o nm g w a c k h j r u D s C G H K V J y I U ae X a6 B)
  replace B:=QcC B;refine QdU (T:=pv p v) (P:=λR'=>∃ N O,R'=R.set k { R[k] with ats:=QI R[k].ats nm,ao:=N,an:=(QI R[k].ats nm).length,ac:=O }) (λb e=>e) (by rw [z];unfold QbY Qcb;rw [decide_eq_true (by exact I),decide_eq_true (by rw [<- a4.an];exact a6)];simp [J,y,B]) c ((Qwz S p R last v f id pa bf m o nm g w a c k h j r u D s C G H K V J y I U ae X a6 B).mono λe w' ⟨a0,a1,M,N,O,a2⟩=>⟨a0,a1,_,M,a2,N,O,rfl⟩) λR' au=>?_;obtain ⟨N,O,rfl⟩:=au;refine ⟨q.put h rfl rfl,?_⟩;unfold QN;rw [aa];simp only [c,C,G,H,a7,j];simp only [Bool.false_eq_true,if_false];rw [QdN,QdN];rfl
 replace X:=not_true X;exact Z5 a q (by simp [canP,c,C,G,H,a7,X]) (QqY S p R last v f id pa bf m o nm g w a c k h j r u D s C G H K V _ rfl U (by simpa using X))
end Go.Proofs.YtobgcaemnpkbmaaGreat
