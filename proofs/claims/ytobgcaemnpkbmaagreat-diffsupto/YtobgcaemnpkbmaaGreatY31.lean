import Derived.Test.YtobgcaemnpkbmaaGreatY29
import Derived.Test.YtobgcaemnpkbmaaGreatY25
namespace Go.Proofs.YtobgcaemnpkbmaaGreat
set_option maxRecDepth 100000
set_option maxHeartbeats 8000000
open Go.RowKit List
variable {last:Int} {W:List (Nat × Int)} {P:List Qh} {R:List RN} {xs:List Value} {B j k kb n:Nat} {S:Nat->Prop} {L:Nat->Qd} {X:Nat->Qh} {ao:Option Addr} {x:Qh} {w w' wr:World}
theorem Qsl:(Tryz.prog.info? 25).map (λi=>(i.zero,i.size,i.bytes))=some (some Xv,1,24):=by kernel_rfl
theorem Qhw (m:Int) (r:Nat):(Qaj m r).oneCell'=true:=by unfold Qaj;split<;>rfl
def Qfs:List Value->Nat->List Value->List Value
 | xs,_,[]=>xs
 | xs,o,u::us=>Qfs (xs.set o u) (o+1) us
def QfP:World->Nat->Nat->List Value->World
 | w,_,_,[]=>w
 | w,g,o,u::us=>QfP (w.setCell (Xa g o) u) g (o+1) us
theorem Qnt:∀ (a A C B:List Value),a.length=C.length->Qfs (A++(C++B)) A.length a=A++(a++B)
 | [],A,C,B,h=>by rw [length_eq_zero_iff.1 h.symm];rfl
 | u::a,A,c::C,B,h=>by
  have e:(A++(c::C++B)).set A.length u=(A++[u])++(C++B):=by rw [set_append_right _ _ X0,Nat.sub_self];simp
  have ih:=Qnt a (A++[u]) C B (by simpa using h);rw [length_append] at ih;rw [Qfs,e];exact ih.trans (by simp)
theorem Qmu {B:Nat} {e:TypeId} {size g n c:Nat}:∀ (d:List Value) (a:Nat) (w:World) (f:List Value),w.ownsRow B e size (Xe g n c) n f->(QfP w g a d).ownsRow B e size (Xe g n c) n (Qfs f a d)/\(QfP w g a d).heap.size=w.heap.size/\Qi (λb=>b=g) w (QfP w g a d)| [],_,w,_,h=>⟨h,rfl,Qi.of_below X4⟩| u::d,a,w,f,h=>by obtain ⟨m,j,i⟩:=Qmu d (a+1) (w.setCell (Xa g a) u) (f.set a u) (h.stored a u).1;refine ⟨m,j.trans (QJ _ _ _),⟨i.os,i.tape,i.output,by show _<=(QfP (w.setCell (Xa g a) u) g (a+1) d).heap.size;rw [j];exact Nat.le_of_eq (QJ _ _ _).symm,λk o l=>?_⟩⟩;exact (i.block k (by rw [QJ];exact o) l).trans (X5 l)
def Qdo (m:Int) (a:List Value) (i:Nat):List Value:=QO (Qaj m) 8 i++a.drop (i*8)
def QhR (m:Int):List Value:=[Xi m,Xi 0,Xi 0,Xi 0,Xi 0,Xo,Xo,Xo]
theorem Qsx (m:Int) (a:List Value):Qdo m a 0=a:=by unfold Qdo QO;simp
theorem QsV (m:Int) (a:List Value) (n:Nat) (b:a.length=n*8):Qdo m a n=QO (Qaj m) 8 n:=by unfold Qdo;rw [drop_of_length_le (by omega),append_nil]
theorem QuI (m:Int) (a:List Value) (i:Nat) (f:i*8+7<a.length):Qfs (Qdo m a i) (i*8) (QhR m)=Qdo m a (i+1):=by
 have c:(QO (Qaj m) 8 i).length=i*8:=QbA _ _ _;have d:a.drop (i*8)=(a.drop (i*8)).take 8++a.drop ((i+1)*8):=by rw [show (i+1)*8=i*8+8 by omega,<- drop_drop,take_append_drop]
 have b:=Qnt (QhR m) (QO (Qaj m) 8 i) ((a.drop (i*8)).take 8) (a.drop ((i+1)*8)) (by rw [length_take,length_drop];show 8=_;omega);rw [c,<- d] at b;unfold Qdo;rw [b,<- QcY _ _ i 1,append_assoc];rfl
theorem Qoj (m:Int) (w:World) (t:TypeId):∀ j u,(QO (Qaj m) 8 1)[j]?=some u->(w.alloc (.cells #[Xi m,Xi 0,Xi 0,Xi 0,Xi 0,Xo,Xo,Xo] t)).cell? (((Xa w.heap.size 0):Addr).add j)=some u := λj u a=>Q3 w #[Xi m,Xi 0,Xi 0,Xi 0,Xi 0,Xo,Xo,Xo] t _ rfl j u a
theorem Qop (m:Int) (w:World) (t:TypeId):∀ j u,(QO (Qaj m) 8 2)[j]?=some u->(w.alloc (.cells #[Xi m,Xi 0,Xi 0,Xi 0,Xi 0,Xo,Xo,Xo,Xi m,Xi 0,Xi 0,Xi 0,Xi 0,Xo,Xo,Xo] t)).cell? (((Xa w.heap.size 0):Addr).add j)=some u := λj u a=>Q3 w #[Xi m,Xi 0,Xi 0,Xi 0,Xi 0,Xo,Xo,Xo,Xi m,Xi 0,Xi 0,Xi 0,Xi 0,Xo,Xo,Xo] t _ rfl j u a
theorem QoV (m:Int) (w:World) (t:TypeId):∀ j u,(QO (Qaj m) 8 3)[j]?=some u->(w.alloc (.cells #[Xi m,Xi 0,Xi 0,Xi 0,Xi 0,Xo,Xo,Xo,Xi m,Xi 0,Xi 0,Xi 0,Xi 0,Xo,Xo,Xo,Xi m,Xi 0,Xi 0,Xi 0,Xi 0,Xo,Xo,Xo] t)).cell? (((Xa w.heap.size 0):Addr).add j)=some u := λj u a=>Q3 w #[Xi m,Xi 0,Xi 0,Xi 0,Xi 0,Xo,Xo,Xo,Xi m,Xi 0,Xi 0,Xi 0,Xi 0,Xo,Xo,Xo,Xi m,Xi 0,Xi 0,Xi 0,Xi 0,Xo,Xo,Xo] t _ rfl j u a
theorem QvS (S:Nat->Prop) (a f:Nat) (v:Value) (E:List Value) (l:Value) (n:Nat) (A:List Value) (w:World) (bU:E.length<=17179869184) (bV:E.length % 4=0) (a3:∀ b,S b->b<w.heap.size) (B:n<=4294967296) (V:w.cell? (Xa a (f+3))=some v) (ag:w.frozen? (Xa a (f+3))=false) (G:LAt S w 25 v E (λi=>Qaj (Z3 i)) 8) (a4:∀ b,v.ownBlock=some b->¬ S b) (H:w.ownsRow 0 29 8 l n A) (ah:¬ S a) (a5:some a≠v.ownBlock) (t:some a≠l.ownBlock) (x:l.ownBlock=none \/ l.ownBlock≠v.ownBlock) (a6:∀ b,l.ownBlock=some b->¬ S b) : Xl 41 #[.pointer (some (Xa a f)),l] w λe w'=>e=.returned (.tuple #[])/\Qkg S (λi=>Qaj (Z3 i)) 8 25 a (f+3) w v l E w':=by
 obtain ⟨W,X,M,N,O⟩:=info_parts QiU;obtain ⟨b0,b1,al,ap,aq⟩:=info_parts Qsl;obtain ⟨ao,I,rfl⟩:=Qy G.row;obtain ⟨h,j,rfl⟩:=Qy H;have P:=block_lt_of_cell V;have b2:=Qa G;have J:=Qa H;have ak:=Qa (λwr w1 w2 w3 w4 O1 O2 O3 O4 q1 q2 q3 v4 v0=>QiZ (wr:=wr) (w1:=w1) (w2:=w2) (w3:=w3) (w4:=w4) (O1:=O1) (O2:=O2) (O3:=O3) (O4:=O4) (q1:=q1) (q2:=q2) (q3:=q3) (v4:=v4) (v0:=v0) (bk:=f+3) (el:=29) (n:=n) (Qaj (Z3 E.length)) G a4 a3 B (λi bW ai=>by show Qaj (Z3 i)=_;rw [show Z3 i=Z3 E.length by unfold Z3;omega]) (λb e=>(H.lt b e).2) ah P a5 t x a6);clear G H a4 a3 a6 ah;go_enter Tryz.func41,Tryz.ntmps41;go_wp2_with fail;have ar:Hid (-1000-(E.length:Int) / 4=Z3 E.length):=rfl;have bm:(-1000:Int)-(E.length:Int) / 4<=0:=by omega
 have bn:(-9000000000000:Int)<=-1000-(E.length:Int) / 4:=by omega
 generalize au:(-1000-(E.length:Int) / 4)=c at *;clear au;generalize D:w.alloc (.cells #[Xi c,Xi 0,Xi 0,Xi 0,Xi 0,Xo,Xo,Xo] 29)=K;have R:=Xt D;have a7:=X1 D;have av:Hid (K.heap[w.heap.size]?=some (.cells #[Xi c,Xi 0,Xi 0,Xi 0,Xi 0,Xo,Xo,Xo] 29 (0,0))):=Qa (by rw [<- D];exact Xc5 w _);have aw:=Qa (QX J.out R);have ax:Hid (Qi (λb=>some b=Value.ownBlock (.slice h n j)) w K):=Qa (Qi.of_below R);have bp:=Qa a7;have bq:w.heap.size<K.heap.size:=by omega
 have T:Hid (∀ r,Value.ownBlock (.slice h n j)≠some (Addr.block (Xa w.heap.size r))):=Qa λr e=>by have:=(J.out.lt _ e).2;simp at this
 clear D R a7;go_loopw [5] (λi wr=>∃ k:Nat,k<=n/\i=Xi k/\Hid (wr.ownsRow 0 29 8 (.slice h n j) n (Qdo c A k))/\Hid (wr.heap[w.heap.size]?=some (.cells #[Xi c,Xi 0,Xi 0,Xi 0,Xi 0,Xo,Xo,Xo] 29 (0,0)))/\Hid (K.heap.size<=wr.heap.size)/\Hid (Qi (λb=>some b=Value.ownBlock (.slice h n j)) w wr)) (λi _=>n-(intOf i).toNat);·exact ⟨0,X3,rfl,by rw [Qsx];exact aw,av,Qa X0,ax⟩
 case round =>
  obtain ⟨k,bX,rfl,d,m,a8,s⟩:=hrel;have ay:A.length=n*8:=J.out.1;have az:w.heap.size<wr.heap.size:=Q9 m.out;have b3:=Qj m.out 0 (Xi c) rfl;have b4:=Qj m.out 1 (Xi 0) rfl;have b5:=Qj m.out 2 (Xi 0) rfl;have b6:=Qj m.out 3 (Xi 0) rfl;have b7:=Qj m.out 4 (Xi 0) rfl;have b8:=Qj m.out 5 Xo rfl;have b9:=Qj m.out 6 Xo rfl;have ba:=Qj m.out 7 Xo rfl;by_cases br:k<n
  ·obtain ⟨g,rfl⟩:∃ g,h=some (Xa g 0):=by
    rcases J.out.2 with ⟨_,e⟩|⟨g,bs,bt,e,_⟩
    ·omega
    simp only [Value.slice.injEq] at e;exact ⟨g,e.1⟩
   have o:∀ r,r<8->∃ u,wr.cell? (Xa g (k*8+r))=some u:=λr bY=>by rw [d.out.cellAt (k*8+r) (by omega)];exact ⟨_,Xa1 (by have:=d.out.1;omega)⟩
   obtain ⟨u0,bu⟩:∃ u,wr.cell? (Xa g (k*8))=some u:=o 0 (by omega);obtain ⟨u1,bv⟩:=o 1 (by omega);obtain ⟨u2,bw⟩:=o 2 (by omega);obtain ⟨u3,bx⟩:=o 3 (by omega);obtain ⟨u4,bz⟩:=o 4 (by omega);obtain ⟨u5,bA⟩:=o 5 (by omega);obtain ⟨u6,bB⟩:=o 6 (by omega);obtain ⟨u7,bC⟩:=o 7 (by omega);have bD:=d.out.frozenAt (k*8);have bE:=d.out.frozenAt (k*8+1);have bF:=d.out.frozenAt (k*8+2);have bG:=d.out.frozenAt (k*8+3);have bH:=d.out.frozenAt (k*8+4);have bI:=d.out.frozenAt (k*8+5);have bJ:=d.out.frozenAt (k*8+6);have bK:=d.out.frozenAt (k*8+7);obtain ⟨Y,aj,a0⟩:=Qmu (QhR c) (k*8) wr _ d.out;rw [QuI c A k (by omega)] at Y;have aA:w.heap.size≠g:=λe=>(T.out 0) (by rw [e];rfl);have L:Hid _:=Qa (And.intro Y (And.intro aj (And.intro (a0.block w.heap.size az aA) (s.out.trans (a0.mono λb _ e=>.inl (by rw [e];rfl))))));clear d s Y aj a0 o;have bZ:(0:Int)<=(k:Int):=by omega
   have c0:(k:Int)<(n:Int):=by omega
   go_wp2;go_roundw;·exact ⟨k+1,by omega,by go_num,Qa L.out.1,Qa (L.out.2.2.1.trans m.out),Qa (by have:=L.out.2.1;have ai:=a8.out;exact Xb6 ai (Nat.le_of_eq this.symm)),Qa L.out.2.2.2⟩
   simp [intOf];omega
  have a9:k=n:=by omega
  have bb:Hid (wr.ownsRow 0 29 8 (.slice h n j) n (QO (Qaj c) 8 n)):=by have:=d.out;rw [a9,QsV c A n ay] at this;exact Qa this
  clear d a9;have aB:=s.out.size;have bo:=a8.out;have C:∀ b,b<w.heap.size->some b≠Value.ownBlock (.slice h n j)->wr.heap[b]?=w.heap[b]?:=λb a1 B=>s.out.block b a1 B;have bc:Hid (wr.ownsRow 0 25 1 (.slice ao E.length I) E.length E):=Qa (by
   refine b2.out.row.kept (row:=Value.ownBlock (.slice h n j)) ⟨s.out.os,s.out.tape,s.out.output,aB,λb a1 B=>C b a1 B⟩ ?_;cases bd:Value.ownBlock (.slice ao E.length I) with
   | none=>exact .inl rfl
   | some b=>exact .inr (λe=>by
    rcases x with a2|a2
    ·rw [a2] at e;cases e
    exact a2 (by rw [bd,e])))
  have aC:Xc wr a (f+3) (.slice ao E.length I):=(Xk a (f+3) (C a P t)).trans V;have aD:Xf wr a (f+3):=(Xm a (f+3) (C a P t)).trans ag;clear C V ag;go_wp2_with (first|(at_builtin;refine Qb7 _ rfl (.tmp 27) (.tmp 29) 25 rfl 29 W _ 8 88 Tryz.underlying25 X M N O rfl (Qaj c) (Qhw c) (.slice h n j) n _ rfl ((Qb bb).alloc _) (Xa wr.heap.size 0) 1 1 rfl (by omega) (Qoj c _ _) (by omega) (by omega) ?_;intro q1 w1 aa aE y bL;obtain ⟨bf,bg,rfl⟩:=Qy (Qb aa);have aF:=(Qb y).size;rw [Ju] at aF;have p:Hid (w1.heap[w.heap.size]?=wr.heap[w.heap.size]?):=Qa (Z1 y (by omega) (Ne.symm (Qb T 0)));have aG:=(Xk w.heap.size 0 (Qb p)).trans b3;have aH:=(Xk w.heap.size 1 (Qb p)).trans b4;have aI:=(Xk w.heap.size 2 (Qb p)).trans b5;have aJ:=(Xk w.heap.size 3 (Qb p)).trans b6;have aK:=(Xk w.heap.size 4 (Qb p)).trans b7;have aL:=(Xk w.heap.size 5 (Qb p)).trans b8;have aM:=(Xk w.heap.size 6 (Qb p)).trans b9;have aN:=(Xk w.heap.size 7 (Qb p)).trans ba)|(at_builtin;refine Qb7 _ rfl (.tmp 31) (.tmp 34) 25 rfl 29 W _ 8 88 Tryz.underlying25 X M N O rfl (Qaj c) (Qhw c) (.slice h n j) n _ rfl ((Qb aE).alloc _) (Xa w1.heap.size 0) 2 2 rfl (by omega) (Qop c _ _) (by omega) (by omega) ?_;intro q2 w2 ab aO z aP;obtain ⟨bh,bi,rfl⟩:=Qy (Qb ab);have aQ:=(Qb z).size;rw [Ju] at aQ;have q:Hid (w2.heap[w.heap.size]?=w1.heap[w.heap.size]?):=Qa (Z1 z (by omega) (Ne.symm (Qb T 0)));have bM:=(Xk w.heap.size 0 (Qb q)).trans aG;have bN:=(Xk w.heap.size 1 (Qb q)).trans aH;have bO:=(Xk w.heap.size 2 (Qb q)).trans aI;have bP:=(Xk w.heap.size 3 (Qb q)).trans aJ;have bQ:=(Xk w.heap.size 4 (Qb q)).trans aK;have bR:=(Xk w.heap.size 5 (Qb q)).trans aL;have bS:=(Xk w.heap.size 6 (Qb q)).trans aM;have bT:=(Xk w.heap.size 7 (Qb q)).trans aN)|(at_builtin;refine Qb7 _ rfl (.tmp 36) (.tmp 40) 25 rfl 29 W _ 8 88 Tryz.underlying25 X M N O rfl (Qaj c) (Qhw c) (.slice h n j) n _ rfl ((Qb aO).alloc _) (Xa w2.heap.size 0) 3 3 rfl (by omega) (QoV c _ _) (by omega) (by omega) ?_;intro q3 w3 ac aR F aS;obtain ⟨bj,bl,rfl⟩:=Qy (Qb ac);have aT:=(Qb F).size;rw [Ju] at aT;have ad:Hid (w3.heap[a]?=wr.heap[a]?):=Qa ((Z1 F (by omega) t).trans ((Z1 z (by omega) t).trans (Z1 y (by omega) t)));have aU:=(Xk a (f+3) (Qb ad)).trans aC;have aV:=(Xm a (f+3) (Qb ad)).trans aD;have aW:=Qa (Qb6 (Qb6 (Qb6 (Qb bc) y x) z x) F x))|(at_builtin;refine Zp _ rfl (.tmp 46) (.tmp 51) 39 rfl 0 25 b0 _ 1 24 Tryz.underlying39 b1 al ap aq rfl (.slice ao E.length I) E.length E rfl ((Qb aW).alloc _) (some (Xa w3.heap.size 0)) 4 4 [.slice h n j,.slice bf (n+1) bg,.slice bh (n+2) bi,.slice bj (n+3) bl] rfl (by simp) rfl (Q3 _ _ _) (by simp [Value.oneCell']) (by omega) (by omega) X3 ?_;intro c1 w4 ae U _;obtain ⟨c2,c3,rfl⟩:=Qy (Qb ae);have aX:=(Qb U).size;rw [Ju] at aX;have af:Hid (w4.heap[a]?=w3.heap[a]?):=Qa (Z1 U (by omega) a5);have aY:=(Xk a (f+3) (Qb af)).trans aU;have aZ:=(Xm a (f+3) (Qb af)).trans aV));go_end0;have e:=ar.out;subst e;exact ⟨rfl,ak.out wr w1 w2 w3 w4 _ _ _ _ _ _ _ _ _ s.out y z F U aP.out aS.out aR.out aa.out ab.out ac.out ae.out aY aZ⟩
theorem Qmq p own w a q m k (c:QH p own w a q m k) (O:m<=400000000) {l:Value} (r:w.ownsRow 0 29 8 l n xs) (g:∀ b,l.ownBlock=some b->own b=none/\p.heap.size<=b) (P:n<=1000000) : Xl 41 #[.pointer (some (Xa a 1)),l] w λe w2=>e=.returned (.tuple #[])/\∃ o,QH p o w2 a q (m+1) k:=by
 obtain ⟨v,E,x,y,z,s,A,j⟩:=c.book.pats;have t:∀ b,(own b).isSome=true->b<w.heap.size:=λb e=>(c.low b e).2;refine (QvS (λb=>own b=some (0,2)) a 1 v E l n xs w (by omega) s (λb e=>t b (by rw [e];rfl)) (by omega) x y z (λb e h=>by rw [j b e] at h;simp at h) r (λe=>by rw [c.wo] at e;simp at e) (λe=>by have:=j a e.symm;rw [c.wo] at this;simp at this) (λe=>by have:=(g a e.symm).1;rw [c.wo] at this;cases this) ?_ (λb e h=>by rw [(g b e).1] at h;cases h)).mono ?_
 ·cases B:l.ownBlock with| none=>exact .inl rfl| some b=>exact .inr λe=>by have:=j b e.symm;rw [(g b B).1] at this;cases this
 rintro e w2 ⟨rfl,C,D,F,G,H,I,J,K,L,M⟩;obtain ⟨o,u⟩:=c.keptOne 3 (ty:=25) (pat:=λi=>Qaj (Z3 i)) (size:=8) (v:=v) (E:=E) (l:=l) j (λb e=>⟨(g b e).1,(g b e).2,(r.lt b e).2⟩) A s ⟨C,D,F,G,H,I,J,K,L,M⟩;exact ⟨rfl,o,u λf N d=>⟨d 0 (by omega) f.nums,d 1 (by omega) f.atts,d 2 (by omega) f.nods,N,d 4 (by omega) f.evts,d 5 (by omega) f.coms⟩⟩
def Qc4 (m:Qd):Qd:={ m with nm:=QP (Zc m),vl:=Q6 (Zc m) }
theorem Qwh (g:Jp w ao n L):Jp w ao n λi=>Qc4 (L i):=λd=>by obtain ⟨b,h,e,c⟩:=g d;refine ⟨b,h,e,c.lt,λi f=>?_⟩;have a:=c.node i f;exact ⟨a.c0,a.c1,a.c2,a.c3,a.c4,⟨a.ok.an,a.ok.t,a.ok.x,QlO a.ok.at'⟩⟩
theorem QuC {N:List TN} {q:Value} (n:Zz B w q N) (m:Jn R W N) (o:QaK R L W 0) (i:Nat) (a:i<W.length):(Jh N i).d=(Qc4 (L i)).d/\(Jh N i).t=(Qc4 (L i)).t/\(Jh N i).k=(Qc4 (L i)).k/\(Jh N i).x=(Qc4 (L i)).x/\(Jh N i).an=(Qc4 (L i)).an/\(Jh N i).nm=(Qc4 (L i)).nm/\(Jh N i).vl=(Qc4 (L i)).vl:=by
 have b:i<N.length:=by rw [m.1];exact a
 obtain ⟨p,r,s,u,v,y⟩:=m.2 i a b;have g:=o.get i a;rw [Nat.zero_add] at g;obtain ⟨_,z,f,h,j,l⟩:=g;rw [JT p] at f h j l;have c:N[i].ats=Zc (L i):=y.trans l;rw [Qhf b];refine ⟨r.trans z,s.trans f,u.trans h,v.trans j,?_,?_,?_⟩
 ·have A:N[i].an=(Zc (L i)).length:=(n.node _ (Xa0 b)).an.trans (by rw [c]);exact A.trans (Qba _)
 ·show QP N[i].ats=_;rw [c];rfl
 show Q6 N[i].ats=_;rw [c];rfl
theorem QtY {N:List TN} (c:Jn R W N) (d:QaK R L W 0) (f:∀ i,i<W.length->(L i).an<=5):∀ x,x ∈ N->x.ats.length<=5:=λx h=>by
 obtain ⟨i,b,rfl⟩:=Xa3 h;have a:i<W.length:=by rw [<- c.1];exact b
 obtain ⟨j,_,_,_,_,k⟩:=c.2 i a b;have g:=(d.get i a).ats;rw [Nat.zero_add,JT j] at g;rw [k,g,Qba];exact f i a
structure Qcp (S:Nat->Prop) (w:World) (kb:Nat) (R:List RN) (last:Int) (X:Nat->Qh) (j:Nat) (wr:World):Prop where
 at':∃ R2 v2,Qq (λb=>JH S w wr b/\b≠kb) wr w.heap.size R2 (QC R last X j).2 v2/\QA R2=QA (QC R last X j).1/\∀ b,v2.ownBlock=some b->w.heap.size<=b
 kb:w.heap.size<kb/\kb<wr.heap.size
 base:Xb w wr
theorem Qcp.grow (n:Qcp S w kb R last X j wr) (a:wr.heap.size<=w'.heap.size) (c:∀ b,b<wr.heap.size->b≠kb->w'.heap[b]?=wr.heap[b]?) (d:Xb w w'):Qcp S w kb R last X j w':=by obtain ⟨⟨f,g,h,i,k⟩,l,o⟩:=n;exact ⟨⟨f,g,h.heap a λb m e=>⟨c b m e.2,e.1.imp id λe=>⟨e.1,by omega⟩,e.2⟩,i,k⟩,⟨l.1,by omega⟩,d⟩
theorem Qq6 (D:Qcp S w kb R last X j wr) (r:Qw (QC R last X j).1 (QC R last X j).2) (u:(QC R last X j).2<=4611686018427387904) (v:(X j).Ok) (x:canP (QC R last X j).1 (QC R last X j).2 (X j)=true) : Xl 37 #[Xp w.heap.size,(X j).val] wr λe w'=>e=.returned (.bool true)/\Qcp S w kb R last X (j+1) w'/\w'.heap[kb]?=wr.heap[kb]?:=by
 obtain ⟨⟨d,i,k,g,l⟩,m,a⟩:=D;have q:Qw d (QC R last X j).2:=by rw [<- Qw.bare,g,Qw.bare];exact r
 have s:canP d (QC R last X j).2 (X j)=true:=by rw [<- Qhh d,g,Qhh];exact x
 refine (QkP _ _ d _ i (X j) v wr u q k).mono ?_;rintro e w' ⟨n,c,y,E,z,⟨o,A⟩,_,p⟩;rw [s] at n p;obtain ⟨B,C⟩:=p.1 rfl;have F:=c.size;have t:∀ b,pv w.heap.size i b->w.heap.size<=b:=λb e=>e.elim (λe=>Nat.le_of_eq e.symm) (l b);refine ⟨n,⟨⟨y,z,?_,?_,λb e=>?_⟩,⟨m.1,by omega⟩,?_⟩,?_⟩
 ·rw [C] at o;refine o.mono λb f e=>?_;have h:=a.size;rcases e with e|e
  ·exact ⟨e.1.imp id λe=>⟨e.1,f⟩,e.2⟩
  exact ⟨.inr ⟨by omega,f⟩,by omega⟩
 ·rw [B,QgC,g,<- QgC];rfl
 ·have h:=a.size;rcases A b e with e|e
  ·exact l b e
  omega
 ·have h:=a.size;exact ⟨c.os.trans a.os,c.tape.trans a.tape,c.output.trans a.output,by omega,λb f=>(c.block b (by omega) λe=>by have:=t b e;omega).trans (a.block b f)⟩
 refine c.block kb m.2 λe=>?_;rcases e with e|e
 ·omega
 exact (k.srow kb e).1.2 rfl
def QaU (P:List Qh) (j t:Nat):Nat:=JS (t:Int) (P.take j)
theorem Qvj (a:j<P.length) (t:Nat):QaU P (j+1) t=QaU P j t+if (Zg P j).kind=(t:Int) then 1 else 0:=by
 unfold QaU;rw [take_succ_eq_append_getElem a,Qa6,Qdd];have e:Zg P j=P[j]:=by unfold Zg;rw [Xg a];rfl
 rw [e]
theorem Qs2 (P:List Qh) (j t:Nat):QaU P j t<=P.length:=by unfold QaU JS;exact Xb6 countP_le_length (by rw [length_take];omega)
theorem Qrs (a:∀ t,t<7->w.cell? (Xa kb t)=some (Xi (QaU P j t:Nat))/\w.frozen? (Xa kb t)=false) (c:k<7) (d:∀ t,QaU P (j+1) t=QaU P j t+if (k:Int)=(t:Int) then 1 else 0) (t:Nat) (b:t<7):(w.setCell (Xa kb k) (Xi ((QaU P j k:Nat)+1))).cell? (Xa kb t)=some (Xi (QaU P (j+1) t:Nat))/\(w.setCell (Xa kb k) (Xi ((QaU P j k:Nat)+1))).frozen? (Xa kb t)=false:=by
 refine ⟨?_,(Xd4 ..).trans (a t b).2⟩;rw [d t];by_cases e:k=t
 ·subst e;rw [if_pos rfl];exact Xc9 _ _ _ (a k c).1
 rw [if_neg (by omega)];exact (Xb9 _ _ _ _ (λf=>e (by cases f;rfl))).trans (a t b).1
theorem QpC (A:Array Value) (w:World) (k:∀ i,i<7->∃ b,A[i]?=some (Xi b)):(Op.equalIn 10000 129 (.agg A) (.agg A)).run Tryz.prog w=.ok true w:=by
 obtain ⟨l,c,_,_,_⟩:=info_parts QbF;rw [run_equalIn_array w 9999 A A Tryz.underlying129 c,show Tryz.prog.cellsOf 3=1 by kernel_rfl];have key:∀ a:List Nat,(∀ i,i ∈ a->i<7)->(Op.eqItems 9999 3 1 A A a).run Tryz.prog w=.ok true w:=by
  intro a;induction a with
  | nil=>intro _;simp [Op.eqItems]
  | cons i a ih =>intro d;obtain ⟨b,f⟩:=k i (d i (by simp));have g:(part 3 A (i*1)).run Tryz.prog w=.ok (Xi b) w:=run_part_plain _ (by kernel_rfl) (by rw [Nat.mul_one];exact f);simp only [Op.eqItems,Sem.run_bind,g,Result.andThen_ok,run_equalIn_int w 9998 3 .i64 .i64 b b Tryz.underlying3];simpa using ih λj h=>d j (by simp [h])
 exact key _ λi c=>Xa6.1 c
theorem QqH (a:canP R last x=true):0<=x.kind/\x.kind<7:=by
 unfold canP at a;by_cases b:(x.kind==1)=true
 ·simp at b;omega
 rw [if_neg b] at a;simp only [Bool.and_eq_true] at a;replace a:=a.2;by_cases c:(x.kind==2)=true
 ·simp at c;omega
 rw [if_neg c] at a;simp only [Bool.and_eq_true] at a;replace a:=a.2;by_cases d:(x.kind==3)=true
 ·simp at d;omega
 rw [if_neg d] at a;by_cases f:(x.kind==6)=true
 ·simp at f;omega
 rw [if_neg f] at a;by_cases g:(x.kind==4)=true
 ·simp at g;omega
 rw [if_neg g] at a;by_cases h:(x.kind==5)=true
 ·simp at h;omega
 rw [if_neg h] at a;cases a
theorem Qsf S p (R z:List RN) last v w (ab:Qq S w p z last v) (ad:QA z=QA R) (a1:Qw R last) (aT:Zw R) (P:List Qh) (Y:JK R last (Zg P) P.length) (bo:∀ j,j<P.length->(Zg P j).Ok) (cu:last+P.length<=4611686018427387904) (d:List RN) (a4:Int) (aI:QC R last (Zg P) P.length=(d,a4)) (r o:Nat) (a5:r<R.length) (b2:Qk R 1=(r:Int)) (aq:o<d.length) (aG:Qk d 1=(o:Int)) L (n:Nat) (cV:R.length-(Qm R R.length r).length=d.length-(Qm d d.length o).length) (aE:QaK d L (Qo d d.length o 0) 0) (af:(Qo d d.length o 0).length=n) (cY:n<=400) (aY:∀ i,i<n->(L i).an<=5) K x A bp bq f (br:Zv w f K x A bp bq) (bs:∀ j:Nat,JS (j:Int) P=K j) (cZ:x.length=A.length) (b3:∀ i,(a6:i<x.length)->∃ a:Nat,A[i]?=some (a:Int)/\a<n/\(Qm d d.length o)[a]?=some x[i]) (d0:x.length<=100000) ao (c:Nat) (bt:Jp w ao n L) aU (m cv:Nat) (cw:m=P.length) (c3:m<=1000000) (bu:JV w aU m (Zg P)) : Xl 40 #[Xp p,Xp f,.slice ao n c,.slice aU m cv] w λe w'=>e=.returned (.bool true)/\Xb w w':=by
 have aF:=Qej ad;have cW:=ab.few;have bT:=Qa (Qri S p z last v w ab (by omega));have ag:Qw d a4:=by have:=(Y.ok a1 aT).1;rw [aI] at this;exact this
 have bX:Hid (∀ (S':Nat->Prop) h J,Qq S' h w.heap.size z last J->Xl 30 #[Xp w.heap.size] h λe w'=>∃ v,e=.returned v/\w'.ownsRow h.heap.size 3 1 v (Qm R R.length r).length (Qs (Qm R R.length r))/\Xb h w'):=Qa λS' h J s=>Qi5 s ad a1 a5 b2;have d1:(Qm R R.length r).length<=z.length:=by rw [aF,<- Qc2 R R.length r 0,length_map];exact QdV a1 a5 0
 have d2:(Qm d d.length o).length=n:=by rw [<- Qc2 d d.length o 0,length_map];exact af
 have ah:n<=d.length:=by rw [<- af];exact QdV ag aq 0
 subst cw;have aJ:Hid (∀ l j wr,j<P.length->Qcp S w l R last (Zg P) j wr->Xl 37 #[Xp w.heap.size,(Zg P j).val] wr λe w'=>e=.returned (.bool true)/\Qcp S w l R last (Zg P) (j+1) w'/\w'.heap[l]?=wr.heap[l]?):=Qa λl j wr a7 u=>by have s:JK R last (Zg P) j:=λi a6=>Y i (by omega);obtain ⟨cx,_,dm⟩:=s.ok a1 aT;exact Qq6 u cx (by omega) (bo j a7) (Y j a7)
 have bY:Hid (∀ l wr,Qcp S w l R last (Zg P) P.length wr->∃ g C,Qq (λb=>JH S w wr b/\b≠l) wr w.heap.size g a4 C/\QA g=QA d):=Qa λl wr u=>by obtain ⟨g,C,s,D,_⟩:=u.at';rw [aI] at s D;exact ⟨g,C,s,D⟩
 have bU:Hid (∀ (S':Nat->Prop) h g C,Qq S' h w.heap.size g a4 C->QA g=QA d->Xl 27 #[Xp w.heap.size] h λe w'=>∃ q N,e=.returned q/\Zz h.heap.size w' q N/\Jn d (Qo d d.length o 0) N/\Xb h w'):=Qa λS' h g C s D=>QkB s D ag aq aG;have bZ:Hid (∀ (S':Nat->Prop) h g C,Qq S' h w.heap.size g a4 C->QA g=QA d->Xl 30 #[Xp w.heap.size] h λe w'=>∃ v,e=.returned v/\w'.ownsRow h.heap.size 3 1 v (Qm d d.length o).length (Qs (Qm d d.length o))/\Xb h w'):=Qa λS' h g C s D=>Qi5 s D ag aq aG;have ai:Hid (∀ j,j<P.length->0<=(Zg P j).kind/\(Zg P j).kind<7):=Qa λj a7=>QqH (Y j a7);have ae:Hid (∀ w',Xb w w'->JV w' aU P.length (Zg P)):=Qa λw' G=>bu.below G;have aV:=Qa br;have c4:=Qa b3;have cy:=Qa bs;have bV:Hid (∀ w4 a8 a9 N B,Xb w w4->Zz B w4 (.slice a8 N.length a9) N->Jn d (Qo d d.length o 0) N->Xl 26 #[.slice a8 N.length a9,.slice ao n c] w4 λe w'=>e=.returned (.bool true)/\Xb w4 w'):=Qa λw4 a8 a9 N B q1 q2 q3=>by have c5:N.length=n:=q3.1.trans af;have b4:=q2.list rfl (by omega) (QtY q3 aE λi a6=>aY i (by omega));rw [c5] at b4 ⊢;exact Qnu a8 ao n a9 c (Jh N) (λi=>Qc4 (L i)) w4 (by unfold maxLen;omega) b4 (Qwh (bt.below q1)) λi a6=>QuC q2 q3 aE i (by omega)
 have c6:Hid (∀ w1 J w3 l,Xb w w1->Qq (JH S w w1) w1 w.heap.size z last J->(∀ b,J.ownBlock=some b->w.heap.size<=b)->Xb w1 w3->w1.heap.size<=l->l<w3.heap.size->Qcp S w l R last (Zg P) 0 w3):=Qa λw1 J w3 l q1 q2 q3 ar dn bv=>by have s:=q1.size;have D:=ar.size;have cz:=q2.lt;exact ⟨⟨z,J,q2.heap D λb G e=>⟨ar.block b G,e.imp id λe=>⟨e.1,by omega⟩,by omega⟩,ad,q3⟩,⟨by omega,bv⟩,q1.trans (ar.mono s)⟩
 have c7:Hid (0<d.length):=Qa (by omega);have bW:=Qa aF;have cA:0<z.length:=by omega
 clear aF;clear ab ad a1 aT Y bo cu aI a5 b2 aG aq aE af br bs b3 bt bu ag aY;go_enter Tryz.func40,Tryz.ntmps40;go_wp2_with (first|(go_at_call 61;refine (Qb bT).mono ?_;rintro e w1 ⟨rfl,b5,J,a0,b6⟩));obtain ⟨cB,c0,rfl,cX,d3,_,_,_⟩:=a0.at cA;have cC:=a0.c0;have c8:w.heap.size<w1.heap.size:=a0.lt;have b7:=Qa a0;have c9:=Qa b6;have ca:=Qa b5;clear a0 b6 b5;go_region_held3 (λw'=>w'.cell? (Xa w.heap.size 0)=some (Xe cB z.length c0)) (first|go_keep|exact cb) (first|(go_at_call 30;refine (Qb bX _ _ _ (b7.out.below X4.drew)).mono ?_;rintro e w2 ⟨q2,rfl,b8,aK⟩;obtain ⟨dp,dq,rfl⟩:=Qy b8;have cb:=(Xh aK w.heap.size 0 c8).trans cC));have b9:Hid (Xb w1 w2):=Qa ((Below.refl w1.heap.size w1).drew.trans aK);have ba:w1.heap.size<=w2.heap.size:=b9.out.size;clear aK b8;go_wp2_with fail;obtain ⟨aa,aL⟩:∃ aa,IntKind.i64.wrap ((z.length:Int)-((Qm R R.length r).length:Int))=aa:=⟨_,rfl⟩;rw [aL];have cc:Hid (aa=(z.length:Int)-((Qm R R.length r).length:Int)):=Qa (by rw [<- aL];exact Qe0 (by omega) (by omega));clear aL;generalize ah:w2.alloc (.cells #[Xi 0,Xi 0,Xi 0,Xi 0,Xi 0,Xi 0,Xi 0] 129)=w3;have cd:Hid (Xb w2 w3):=Qa (by rw [<- ah];exact Xd);have E:Hid (w3.heap[w2.heap.size]?=some (.cells #[Xi 0,Xi 0,Xi 0,Xi 0,Xi 0,Xi 0,Xi 0] 129 (0,0))):=Qa (by rw [<- ah];exact Xc5 w2 _);have ce:Hid (Qcp S w w2.heap.size R last (Zg P) 0 w3):=Qa (c6.out w1 _ w3 _ ca.out b7.out c9.out (b9.out.trans (cd.out.mono ba)) ba (Q9 E.out));clear ah;go_loopw [12,13] (λT _ wr=>∃ j:Nat,j<=P.length/\T=Xi j/\Hid (Qcp S w w2.heap.size R last (Zg P) j wr)/\Hid (∀ t,t<7->wr.cell? (Xa w2.heap.size t)=some (Xi (QaU P j t:Nat))/\wr.frozen? (Xa w2.heap.size t)=false)) (λT _ _=>P.length-(intOf T).toNat)
 case atStart =>
  refine ⟨0,X3,rfl,ce,Qa λt U=>⟨?_,Qax E.out t⟩⟩
  have e:QaU P 0 t=0:=by unfold QaU;rw [take_zero];rfl
  rw [e]
  match t,U with
  | 0,_=>exact Qj E.out 0 _ rfl
  | 1,_=>exact Qj E.out 1 _ rfl
  | 2,_=>exact Qj E.out 2 _ rfl
  | 3,_=>exact Qj E.out 3 _ rfl
  | 4,_=>exact Qj E.out 4 _ rfl
  | 5,_=>exact Qj E.out 5 _ rfl
  | 6,_=>exact Qj E.out 6 _ rfl
 case round =>
  obtain ⟨j,a7,rfl,u,a2⟩:=hrel;by_cases M:j<P.length
  ·have cf:(j:Int)<(P.length:Int):=by omega
   have d4:(0:Int)<=(j:Int):=by omega
   obtain ⟨b,H,cg,_⟩:=ae.out wr u.out.base (by omega);subst cg;obtain ⟨X,id,pa,bf,au,av,nm,aw,W⟩:∃ X id pa bf au av nm aw,Zg P j=⟨X,id,pa,bf,au,av,nm,aw⟩:=⟨_,_,_,_,_,_,_,_,rfl⟩;have bw:Hid (∀ w',Xb w w'->w'.cell? (Xa b (H+j*8))=some (Xi X)/\w'.cell? (Xa b (H+j*8+1))=some (Xi id)/\w'.cell? (Xa b (H+j*8+2))=some (Xi pa)/\w'.cell? (Xa b (H+j*8+3))=some (Xi bf)/\w'.cell? (Xa b (H+j*8+4))=some (Xi au)/\w'.cell? (Xa b (H+j*8+5))=some (.string av)/\w'.cell? (Xa b (H+j*8+6))=some (.string nm)/\w'.cell? (Xa b (H+j*8+7))=some (.string aw)):=Qa λw' ch=>by
    obtain ⟨dr,ds,e,c1⟩:=ae.out w' ch (by omega);cases e;have I:∀ r,r<8->w'.cell? (Xa b (H+(j*8+r)))=some (QY ⟨X,id,pa,bf,au,av,nm,aw⟩ r):=λr a5=>by rw [c1.cell _ (by omega),QcD _ _ _ a5,W]
    exact ⟨I 0 (by decide),I 1 (by decide),I 2 (by decide),I 3 (by decide),I 4 (by decide),I 5 (by decide),I 6 (by decide),I 7 (by decide)⟩
   obtain ⟨y,rfl⟩:∃ cD:Nat,X=(cD:Int):=⟨X.toNat,by have:=ai.out j M;rw [W] at this;exact (Int.toNat_of_nonneg this.1).symm⟩;have bb:y<7:=by have:=(ai.out j M).2;rw [W] at this;show y<7;have D:(y:Int)<7:=this;omega
   have bx:=Qa (aJ.out w2.heap.size j wr M u.out);rw [W] at bx;obtain ⟨d5,d6,d7,d8,d9,da,db,dc⟩:=bw.out wr u.out.base;have bc:=Qa (λt=>Qvj (P:=P) M t);rw [W] at bc;have dd:QaU P j y<=1000000:=Xb6 (Qs2 P j y) c3;have dt:(0:Int)<=(y:Int):=by omega
   have du:(y:Int)<7:=by omega
   have de:=Qa u.out.kb;clear W aJ ae ai u;go_wp2_with (first|(go_at_call 37;refine (Qb bx).mono ?_;rintro e cE ⟨rfl,aM,aj⟩;obtain ⟨dv,_,_,_,_,_,_,_⟩:=bw.out cE aM.base;obtain ⟨bz,bA⟩:=a2.out y bb;have df:=(Xk w2.heap.size y aj).trans bz;have dg:=(Xm w2.heap.size y aj).trans bA;have aH:=Qa aM;have aZ:=Qa aj;clear aM aj bz bA));go_roundw
   ·have ci:=aH.out.kb;exact ⟨j+1,by omega,by go_num,Qa (aH.out.grow (Nat.le_of_eq (QJ _ _ _).symm) (λb _ G=>X5 G) (aH.out.base.setCell (p:=(Xa w2.heap.size y)) (Xc7 ci.1) _)),Qa (Qrs (λt U=>⟨(Xk w2.heap.size t aZ.out).trans (a2.out t U).1,(Xm w2.heap.size t aZ.out).trans (a2.out t U).2⟩) bb bc.out)⟩
   simp [intOf];omega
  have cj:j=P.length:=by omega
  subst cj;have cf:¬ (P.length:Int)<(P.length:Int):=by omega
  obtain ⟨g,C,a3,aN⟩:=bY.out _ wr u.out;have bd:=Qej aN;have bg:=Qa a3;have b0:=Qa aN;have ak:=Qa u.out.base;have bh:=Qa u.out.kb;have ck:0<g.length:=by have:=c7.out;omega
  have cl:=Qa bd;obtain ⟨bB,b1,rfl,_,_,_,_,_⟩:=a3.at ck;have cF:=a3.c0;have cm:w.heap.size<wr.heap.size:=a3.lt;clear a3 aN bd u aJ ae ai;go_wp2_with (first|(go_at_call 27;refine (Qb bU _ _ _ _ bg.out b0.out).mono ?_;rintro e w4 ⟨ar,dw,rfl,aO,bi,bj⟩;obtain ⟨a8,a9,rfl⟩:=Qy aO.row;have cn:=Qa aO;have co:=Qa bi;have aP:=Qa bj;clear aO bi bj)|(go_at_call 26;refine (Qb bV _ _ _ _ _ (ak.out.trans (aP.out.mono ak.out.size)) cn.out co.out).mono ?_;rintro e dx ⟨rfl,bk⟩;have aQ:=Qa (aP.out.trans (bk.mono aP.out.size));clear bk)|(go_at_call 30;refine (Qb bZ _ _ _ _ (bg.out.below aQ.out) b0.out).mono ?_;rintro e V ⟨bv,rfl,aR,bl⟩;obtain ⟨dy,dz,rfl⟩:=Qy aR;have cp:=Qa aR;have al:=Qa (aQ.out.trans (bl.mono aQ.out.size));clear aR bl));have aS:Hid (Xb w V):=Qa (ak.out.trans (al.out.mono ak.out.size));have F:∀ t,t<7->V.cell? (Xa w2.heap.size t)=some (Xi (K t:Nat))/\V.cell? (Xa f t)=some (Xi (K t:Nat)):=λt U=>by
   have e:QaU P P.length t=K t:=by unfold QaU;rw [take_length];exact cy.out t
   obtain ⟨q1,_,q3⟩:=aV.out.cnt.kind (j:=t) U;rw [<- e];refine ⟨(Xh al.out w2.heap.size t bh.out.2).trans (a2.out t U).1,?_⟩;rw [e];exact (Xh aS.out f t q3).trans q1
  have cq:=Qa F;obtain ⟨bC,bD⟩:=F 0 (by omega);obtain ⟨bE,bF⟩:=F 1 (by omega);obtain ⟨bG,bH⟩:=F 2 (by omega);obtain ⟨bI,bJ⟩:=F 3 (by omega);obtain ⟨bK,bL⟩:=F 4 (by omega);obtain ⟨bM,bN⟩:=F 5 (by omega);obtain ⟨bO,bP⟩:=F 6 (by omega);have ax:=(Xh al.out w.heap.size 0 cm).trans cF;have dh:f<V.heap.size:=Xb4 aV.out.lt.1 aS.out.size;have di:w2.heap.size<V.heap.size:=Xb4 bh.out.2 al.out.size;have c2:(IntKind.i64.wrap ((g.length:Int)-(n:Int)) !=aa)=false:=by have s:=cc.out;have D:=bW.out;have cz:=cl.out;have cG:IntKind.i64.wrap ((g.length:Int)-(n:Int))=(g.length:Int)-(n:Int):=Qe0 (by omega) (by omega);rw [cG,show (g.length:Int)-(n:Int)=aa by omega];simp
  clear F a2;generalize K 0=ay at *;generalize K 1=az at *;generalize K 2=aA at *;generalize K 3=aB at *;generalize K 4=aC at *;generalize K 5=K5 at *;generalize K 6=aD at *;have ap:(λw':World=>Xc w' w.heap.size 0 (Xe bB g.length b1)/\Xc w' w2.heap.size 0 (Xi (ay:Nat))/\Xc w' f 0 (Xi (ay:Nat))/\Xc w' w2.heap.size 1 (Xi (az:Nat))/\Xc w' f 1 (Xi (az:Nat))/\Xc w' w2.heap.size 2 (Xi (aA:Nat))/\Xc w' f 2 (Xi (aA:Nat))/\Xc w' w2.heap.size 3 (Xi (aB:Nat))/\Xc w' f 3 (Xi (aB:Nat))/\Xc w' w2.heap.size 4 (Xi (aC:Nat))/\Xc w' f 4 (Xi (aC:Nat))/\Xc w' w2.heap.size 5 (Xi (K5:Nat))/\Xc w' f 5 (Xi (K5:Nat))/\Xc w' w2.heap.size 6 (Xi (aD:Nat))/\Xc w' f 6 (Xi (aD:Nat))) V.drew:=⟨ax,bC,bD,bE,bF,bG,bH,bI,bJ,bK,bL,bM,bN,bO,bP⟩;refine ZU (S:=(λw':World=>w'.cell? (Xa w.heap.size 0)=some (Xe bB g.length b1)/\w'.cell? (Xa w2.heap.size 0)=some (Xi (ay:Nat))/\w'.cell? (Xa f 0)=some (Xi (ay:Nat))/\w'.cell? (Xa w2.heap.size 1)=some (Xi (az:Nat))/\w'.cell? (Xa f 1)=some (Xi (az:Nat))/\w'.cell? (Xa w2.heap.size 2)=some (Xi (aA:Nat))/\w'.cell? (Xa f 2)=some (Xi (aA:Nat))/\w'.cell? (Xa w2.heap.size 3)=some (Xi (aB:Nat))/\w'.cell? (Xa f 3)=some (Xi (aB:Nat))/\w'.cell? (Xa w2.heap.size 4)=some (Xi (aC:Nat))/\w'.cell? (Xa f 4)=some (Xi (aC:Nat))/\w'.cell? (Xa w2.heap.size 5)=some (Xi (K5:Nat))/\w'.cell? (Xa f 5)=some (Xi (K5:Nat))/\w'.cell? (Xa w2.heap.size 6)=some (Xi (aD:Nat))/\w'.cell? (Xa f 6)=some (Xi (aD:Nat)))) (by kernel_rfl) ?_;iterate 8
   apply Qbz ?_ ap ?_;rotate_left
   ·(intro w' hSw;(try obtain ⟨q0,cH,cI,bQ,cJ,aW,cK,cL,cM,cN,cO,cP,cQ,aX,cR⟩:=hSw);simp only [Xq];go_simp;try (with_reducible rfl))
   simp only [Xq,Xr]
  refine J9 8 ?_;apply QZ (v:=.bool false) rfl (by kernel_rfl) (λ_ _ _ ab=>ab) (by rfl) ?_ ap ?_
  ·intro w' hSw;simp only [Xq];go_simp
   rw [QpC _ w' λi a6=>by
    match i,a6 with
    | 0,_=>exact ⟨_,rfl⟩
    | 1,_=>exact ⟨_,rfl⟩
    | 2,_=>exact ⟨_,rfl⟩
    | 3,_=>exact ⟨_,rfl⟩
    | 4,_=>exact ⟨_,rfl⟩
    | 5,_=>exact ⟨_,rfl⟩
    | 6,_=>exact ⟨_,rfl⟩]
   rfl
  simp only [Xq,Xr];iterate 13
   apply Qbz ?_ ap ?_;rotate_left
   ·(intro w' hSw;(try obtain ⟨q0,cH,cI,bQ,cJ,aW,cK,cL,cM,cN,cO,cP,cQ,aX,cR⟩:=hSw);simp only [Xq];go_simp;try (with_reducible rfl))
   simp only [Xq,Xr]
  refine ZP (by kernel_rfl) ?_ _;have bm:=Qa aS.out.drew;have cr:=Qa (cp.out.drew);clear ap bC bE bG bI bK bM bO bD bF bH bJ bL bN bP ax cq;generalize V.drew=cS at *;go_wp2_with fail;clear c2;go_loopw [16] (λT wr=>∃ k:Nat,k<=x.length/\T=Xi k/\Hid (Xb cS wr)) (λT _=>x.length-(intOf T).toNat);·exact ⟨0,X3,rfl,Qa X4⟩
  case round =>
   obtain ⟨k,dA,rfl,G⟩:=hrel;have bn:Hid (Xb w wr):=Qa (bm.out.trans (G.out.mono bm.out.size));have O:=Qa (aV.out.below bn.out);have dB:Xc wr f 7 bp:=O.out.cnt.cell (i:=7) (by omega);have dC:Xc wr f 8 bq:=O.out.cnt.cell (i:=8) (by omega);have dj:f<wr.heap.size:=O.out.lt.1;obtain ⟨dD,dE,rfl⟩:=Qy O.out.irow;obtain ⟨dF,ac,rfl⟩:=Qy O.out.arow;by_cases M:k<x.length
   ·have cs:(k:Int)<(x.length:Int):=by omega
    have dk:(0:Int)<=(k:Int):=by omega
    have dl:(k:Int)<(A.length:Int):=by omega
    obtain ⟨dG,_,cT,bQ,_,dH⟩:=Qb0 O.out.irow M;obtain ⟨dI,_,cU,aW,_,dJ⟩:=Qb0 O.out.arow (j:=k) (by omega);subst cT cU;obtain ⟨a,q1,q2,q3⟩:=c4.out k M;obtain ⟨dK,ct,ax,aX,_,dL⟩:=Qb0 (QX cr.out G.out) (j:=a) (by omega);subst ax;have bR:A[k]=(a:Int):=by rw [getElem?_eq_getElem (by omega)] at q1;exact Xb5 q1
    have bS:(Qm d d.length o)[a]=x[k]:=by rw [getElem?_eq_getElem ct] at q3;exact Xb5 q3
    rw [bR] at aW;rw [bS] at aX;have dM:(0:Int)<=(a:Int):=by omega
    have dN:(a:Int)<(n:Int):=by omega
    clear q1 q3 bR bS;generalize x[k]=dO at *;go_wp2;go_big_quiet (fail);go_wp2;go_roundw;·exact ⟨k+1,by omega,by go_num,Qa (Qv G.out _)⟩
    simp [intOf];omega
   have cs:¬ (k:Int)<(x.length:Int):=by omega
   go_wp2;go_ret;exact ⟨rfl,bn.out⟩
end Go.Proofs.YtobgcaemnpkbmaaGreat
