import Derived.Test.YtobgcaemnpkbmaaGreatY27
namespace Go.Proofs.YtobgcaemnpkbmaaGreat
set_option maxRecDepth 100000
set_option maxHeartbeats 8000000
open Go.RowKit List
variable {E EA xs:List Value} {B base bb bo i k m n size:Nat} {S SA:Nat->Prop} {ao:Option Addr} {e:TypeId} {v vA:Value} {w w' w1 wr:World}
theorem Qsk:(Tryz.prog.info? 31).map (λi=>(i.zero,i.size,i.bytes))=some (some Xv,1,24):=by kernel_rfl
def Qaq (s:ByteArray):Nat->Value:=λr=>if r=0 then .string s else Xo
theorem Qhv (s:ByteArray) (r:Nat):(Qaq s r).oneCell'=true:=by unfold Qaq;split<;>rfl
def QaF (i:Nat):ByteArray:=Qfx (i / 4)
structure Qdf (S:Nat->Prop) (w:World) (v:Value) (E:List Value):Prop where
 row:w.ownsRow 0 31 1 v E.length E
 each:∀ i,(hi:i<E.length)->Jk S (Qaq (QaF i)) 2 w E[i]
 apart:∀ b,v.ownBlock=some b->¬ S b
def Qde (s:ByteArray) (a:List Value) (i:Nat):List Value:=QO (Qaq s) 2 i++a.drop (i*2)
theorem Qoy (s:ByteArray) (a:List Value):Qde s a 0=a:=by unfold Qde QO;simp
theorem Qsh (s:ByteArray) (a:List Value) (n:Nat) (b:a.length=n*2):Qde s a n=QO (Qaq s) 2 n:=by unfold Qde;rw [drop_of_length_le (by omega),append_nil]
theorem Qt5 (s:ByteArray) (i:Nat):QO (Qaq s) 2 (i+1)=QO (Qaq s) 2 i++[.string s,Xo]:=by rw [<- QcY];rfl
theorem QrW (s:ByteArray) (a:List Value) (i:Nat) (c:i*2+1<a.length):((Qde s a i).set (i*2) (.string s)).set (i*2+1) Xo=Qde s a (i+1):=by unfold Qde;have b:(QO (Qaq s) 2 i).length=i*2:=QbA _ _ _;rw [drop_eq_getElem_cons (by omega),drop_eq_getElem_cons (by omega),set_append_right _ _ (by omega),b,Nat.sub_self,set_cons_zero,set_append_right _ _ (by omega),b,show i*2+1-i*2=1 by omega,set_cons_succ,set_cons_zero,Qt5,show (i+1)*2=i*2+1+1 by omega,append_assoc];rfl
theorem QpV (s:ByteArray) (w:World) (t:TypeId):∀ j u,(QO (Qaq s) 2 1)[j]?=some u->(w.alloc (.cells #[.string s,Xo] t)).cell? (((Xa w.heap.size 0):Addr).add j)=some u := λj u a=>Q3 w #[.string s,Xo] t _ rfl j u a
theorem QqQ (s:ByteArray) (w:World) (t:TypeId):∀ j u,(QO (Qaq s) 2 2)[j]?=some u->(w.alloc (.cells #[.string s,Xo,.string s,Xo] t)).cell? (((Xa w.heap.size 0):Addr).add j)=some u := λj u a=>Q3 w #[.string s,Xo,.string s,Xo] t _ rfl j u a
theorem QwP (s:ByteArray) (w:World) (t:TypeId):∀ j u,(QO (Qaq s) 2 3)[j]?=some u->(w.alloc (.cells #[.string s,Xo,.string s,Xo,.string s,Xo] t)).cell? (((Xa w.heap.size 0):Addr).add j)=some u := λj u a=>Q3 w #[.string s,Xo,.string s,Xo,.string s,Xo] t _ rfl j u a
theorem QuD (S:Nat->Prop) (c f:Nat) (v:Value) (E:List Value) (l:Value) (n:Nat) (D:List Value) (w:World) (bz:E.length<=17179869184) (bA:E.length % 4=0) (al:∀ b,S b->b<w.heap.size) (F:n<=4294967296) (V:w.cell? (Xa c (f+1))=some v) (ae:w.frozen? (Xa c (f+1))=false) (q:Qdf S w v E) (I:w.ownsRow 0 72 2 l n D) (aT:¬ S c) (a1:some c≠v.ownBlock) (p:some c≠l.ownBlock) (y:l.ownBlock=none \/ l.ownBlock≠v.ownBlock) (aq:∀ b,l.ownBlock=some b->¬ S b) : Xl 50 #[.pointer (some (Xa c f)),l] w λe w'=>e=.returned (.tuple #[]) /\ Qi (λb=>b=c \/ some b=v.ownBlock \/ some b=l.ownBlock) w w'/\∃ s J,w'.cell? (Xa c (f+1))=some s/\w'.frozen? (Xa c (f+1))=false/\J.length=E.length+4/\(∀ b,s.ownBlock=some b->v.ownBlock=some b \/ w.heap.size<=b)/\(∀ G,G≠f+1->w'.cell? (Xa c G)=w.cell? (Xa c G)/\w'.frozen? (Xa c G)=w.frozen? (Xa c G)) /\ Qdf (λb=>S b \/ some b=l.ownBlock \/ (w.heap.size<=b/\b<w'.heap.size/\some b≠s.ownBlock)) w' s J:=by
 obtain ⟨W,X,M,N,O⟩:=info_parts Qcr;obtain ⟨aU,aV,ar,au,av⟩:=info_parts Qsk;obtain ⟨ao,K,rfl⟩:=Qy q.row;obtain ⟨h,j,rfl⟩:=Qy I;have P:=block_lt_of_cell V;have aW:=Qa q;have L:=Qa I;have aX:E.length / 4<=4294967296:=by omega
 have af:∀ w,Xl 20 #[Xi ((E.length:Int) / 4)] w λe w'=>e=.returned (.string (QaF E.length))/\w=w':=λw=>by
  have:=Qk6 (E.length / 4) w aX;have e:(((E.length / 4:Nat):Int))=(E.length:Int) / 4:=by omega
  rw [e] at this;exact this.mono λ_ _ t=>⟨t.1,t.2.symm⟩
 have ak:=Qa af;have ap:=Qa (λwr w1 w2 w3 w4 O1 O2 O3 O4 q1 q2 q3 v4 v0=>QiZ (wr:=wr) (w1:=w1) (w2:=w2) (w3:=w3) (w4:=w4) (O1:=O1) (O2:=O2) (O3:=O3) (O4:=O4) (q1:=q1) (q2:=q2) (q3:=q3) (v4:=v4) (v0:=v0) (bk:=f+1) (el:=72) (n:=n) (pt:=λi=>Qaq (QaF i)) (Qaq (QaF E.length)) ⟨q.row,q.each⟩ q.apart al F (λi bB bC=>by show Qaq (QaF i)=_;rw [show QaF i=QaF E.length by unfold QaF;rw [show i / 4=E.length / 4 by omega]]) (λb e=>(I.lt b e).2) aT P a1 p y aq);clear q I af;go_enter Tryz.func50,Tryz.ntmps50;go_wp2_with (first|(go_at_call 20;refine (Qb ak _).mono ?_;rintro e w1 ⟨rfl,rfl⟩));generalize z:w.alloc (.cells #[.string (QaF E.length),Xo] 72)=Y;have R:=Xt z;have a2:=X1 z;have aY:=Xz z 0 (.string (QaF E.length)) rfl;have aZ:=Xz z 1 Xo rfl;have aw:=Qa (QX L.out R);have ax:Hid (Qi (λb=>some b=Value.ownBlock (.slice h n j)) w Y):=Qa (Qi.of_below R);have bo:=Qa a2;have bp:w.heap.size<Y.heap.size:=by omega
 have T:Hid (∀ r,Value.ownBlock (.slice h n j)≠some (Addr.block (Xa w.heap.size r))):=Qa λr e=>by have:=(L.out.lt _ e).2;simp at this
 clear z R a2;generalize a3:QaF E.length=d at *;have ay:Hid (d=QaF E.length):=Qa a3.symm;clear a3;go_loopw [5] (λi wr=>∃ k:Nat,k<=n/\i=Xi k/\Hid (wr.ownsRow 0 72 2 (.slice h n j) n (Qde d D k))/\wr.cell? (Xa w.heap.size 0)=some (.string d)/\wr.cell? (Xa w.heap.size 1)=some Xo/\Hid (Y.heap.size<=wr.heap.size)/\Hid (Qi (λb=>some b=Value.ownBlock (.slice h n j)) w wr)) (λi _=>n-(intOf i).toNat);·exact ⟨0,X3,rfl,by rw [Qoy];exact aw,aY,aZ,Qa X0,ax⟩
 case round =>
  obtain ⟨k,bD,rfl,m,ag,ah,a4,o⟩:=hrel;have az:D.length=n*2:=L.out.1;by_cases bq:k<n
  ·obtain ⟨g,rfl⟩:∃ g,h=some (Xa g 0):=by
    rcases L.out.2 with ⟨_,e⟩|⟨g,br,bs,e,_⟩
    ·omega
    simp only [Value.slice.injEq] at e;exact ⟨g,e.1⟩
   obtain ⟨u,bE⟩:∃ u,wr.cell? (Xa g (k*2))=some u:=by rw [m.out.cellAt (k*2) (by omega)];exact ⟨_,Xa1 (by have:=m.out.1;omega)⟩
   obtain ⟨bF,bt⟩:∃ u,wr.cell? (Xa g (k*2+1))=some u:=by rw [m.out.cellAt (k*2+1) (by omega)];exact ⟨_,Xa1 (by have:=m.out.1;omega)⟩
   have bG:=m.out.frozenAt (k*2);have bu:=m.out.frozenAt (k*2+1);have ai:=Qa (((m.out.stored (k*2) (.string d)).1).stored (k*2+1) Xo).1;rw [QrW d D k (by omega)] at ai;have b0:=Qa ((o.out.set (a:=(Xa g (k*2))) (.inl rfl) (.string d)).set (a:=(Xa g (k*2+1))) (.inl rfl) Xo);have A:w.heap.size≠g:=λe=>(T.out 0) (by rw [e];rfl);have bl:g≠w.heap.size:=λe=>A e.symm;have b1:((wr.setCell (Xa g (k*2)) (.string d)).setCell (Xa g (k*2+1)) Xo).cell? (Xa w.heap.size 0)=some (.string d):=by rw [World.cell?_of_block (X5 A),World.cell?_of_block (X5 A)];exact ag
   have b2:((wr.setCell (Xa g (k*2)) (.string d)).setCell (Xa g (k*2+1)) Xo).cell? (Xa w.heap.size 1)=some Xo:=by rw [World.cell?_of_block (X5 A),World.cell?_of_block (X5 A)];exact ah
   clear m o;go_wp2;go_roundw;·exact ⟨k+1,by omega,by go_num,ai,b1,b2,Qa (by rw [QJ,QJ];exact a4.out),b0⟩
   simp [intOf];omega
  have a5:k=n:=by omega
  have b3:Hid (wr.ownsRow 0 72 2 (.slice h n j) n (QO (Qaq d) 2 n)):=by have:=m.out;rw [a5,Qsh d D n az] at this;exact Qa this
  clear m a5;have aA:=o.out.size;have bm:=a4.out;have x:∀ b,b<w.heap.size->some b≠Value.ownBlock (.slice h n j)->wr.heap[b]?=w.heap[b]?:=λb a0 F=>o.out.block b a0 F;have b4:Hid (wr.ownsRow 0 31 1 (.slice ao E.length K) E.length E):=Qa (by
   refine aW.out.row.kept (row:=Value.ownBlock (.slice h n j)) ⟨o.out.os,o.out.tape,o.out.output,aA,λb a0 F=>x b a0 F⟩ ?_;cases b5:Value.ownBlock (.slice ao E.length K) with
   | none=>exact .inl rfl
   | some b=>exact .inr (λe=>by
    rcases y with t|t
    ·rw [t] at e;cases e
    exact t (by rw [b5,e])))
  have aB:Xc wr c (f+1) (.slice ao E.length K):=(Xk c (f+1) (x c P p)).trans V;have aC:Xf wr c (f+1):=(Xm c (f+1) (x c P p)).trans ae;have bn:=Qa x;clear x V ae;go_wp2_with (first|(at_builtin;refine Qb7 _ rfl (.tmp 27) (.tmp 29) 31 rfl 72 W _ 2 32 Tryz.underlying31 X M N O rfl (Qaq d) (Qhv d) (.slice h n j) n _ rfl ((Qb b3).alloc _) (Xa wr.heap.size 0) 1 1 rfl (by omega) (QpV d _ _) (by omega) (by omega) ?_;intro q1 w1 a6 aD B bv;obtain ⟨b6,b7,rfl⟩:=Qy (Qb a6);have aE:=(Qb B).size;rw [Ju] at aE;have a7:Hid (w1.heap[w.heap.size]?=wr.heap[w.heap.size]?):=Qa (Z1 B (by omega) (Ne.symm (Qb T 0)));have aF:=(Xk w.heap.size 0 (Qb a7)).trans ag;have aG:=(Xk w.heap.size 1 (Qb a7)).trans ah)|(at_builtin;refine Qb7 _ rfl (.tmp 31) (.tmp 34) 31 rfl 72 W _ 2 32 Tryz.underlying31 X M N O rfl (Qaq d) (Qhv d) (.slice h n j) n _ rfl ((Qb aD).alloc _) (Xa w1.heap.size 0) 2 2 rfl (by omega) (QqQ d _ _) (by omega) (by omega) ?_;intro q2 w2 a8 aH C aI;obtain ⟨b8,b9,rfl⟩:=Qy (Qb a8);have aJ:=(Qb C).size;rw [Ju] at aJ;have a9:Hid (w2.heap[w.heap.size]?=w1.heap[w.heap.size]?):=Qa (Z1 C (by omega) (Ne.symm (Qb T 0)));have bw:=(Xk w.heap.size 0 (Qb a9)).trans aF;have bx:=(Xk w.heap.size 1 (Qb a9)).trans aG)|(at_builtin;refine Qb7 _ rfl (.tmp 36) (.tmp 40) 31 rfl 72 W _ 2 32 Tryz.underlying31 X M N O rfl (Qaq d) (Qhv d) (.slice h n j) n _ rfl ((Qb aH).alloc _) (Xa w2.heap.size 0) 3 3 rfl (by omega) (QwP d _ _) (by omega) (by omega) ?_;intro q3 w3 aa aK H aL;obtain ⟨ba,bb,rfl⟩:=Qy (Qb aa);have aM:=(Qb H).size;rw [Ju] at aM;have ab:Hid (w3.heap[c]?=wr.heap[c]?):=Qa ((Z1 H (by omega) p).trans ((Z1 C (by omega) p).trans (Z1 B (by omega) p)));have aN:=(Xk c (f+1) (Qb ab)).trans aB;have aO:=(Xm c (f+1) (Qb ab)).trans aC;have aP:=Qa (Qb6 (Qb6 (Qb6 (Qb b4) B y) C y) H y))|(at_builtin;refine Zp _ rfl (.tmp 46) (.tmp 51) 37 rfl 0 31 aU _ 1 24 Tryz.underlying37 aV ar au av rfl (.slice ao E.length K) E.length E rfl ((Qb aP).alloc _) (some (Xa w3.heap.size 0)) 4 4 [.slice h n j,.slice b6 (n+1) b7,.slice b8 (n+2) b9,.slice ba (n+3) bb] rfl (by simp) rfl (Q3 _ _ _) (by simp [Value.oneCell']) (by omega) (by omega) X3 ?_;intro bH w4 ac U _;obtain ⟨bI,bJ,rfl⟩:=Qy (Qb ac);have aQ:=(Qb U).size;rw [Ju] at aQ;have ad:Hid (w4.heap[c]?=w3.heap[c]?):=Qa (Z1 U (by omega) a1);have aR:=(Xk c (f+1) (Qb ad)).trans aN;have aS:=(Xm c (f+1) (Qb ad)).trans aO));go_end0;have e:=ay.out;subst e;obtain ⟨bc,s,J,bd,bf,bg,bh,bi,aj,bj⟩:=ap.out wr w1 w2 w3 w4 _ _ _ _ _ _ _ _ _ o.out B C H U aI.out aL.out aK.out a6.out a8.out aa.out ac.out aR aS;exact ⟨rfl,bc,s,bd,bf,J,bg,bh,bi,⟨aj.row,aj.each,bj⟩⟩
def JQ (m:Int):Nat->Value:=λr=>match r with|0=>Xi 0|1=>Xo|2=>Xi m|3=>Xv|_=>Xo
theorem QsY:(Tryz.prog.info? 24).map (λi=>(i.zero,i.size,i.bytes))=some (some Xv,1,24):=by kernel_rfl
theorem Qix (m:Int) (r:Nat):(JQ m r).oneCell'=true:=by unfold JQ;split<;>rfl
structure Qjv (S:Nat->Prop) (w:World) (v:Value) (E:List Value):Prop where
 row:w.ownsRow 0 24 1 v E.length E
 each:∀ i,(hi:i<E.length)->Jk S (JQ (Z3 i)) 5 w E[i]
 apart:∀ b,v.ownBlock=some b->¬ S b
def QbT (m:Int) (a:List Value) (i:Nat):List Value:=QO (JQ m) 5 i++a.drop (i*5)
theorem Qo6 (m:Int) (a:List Value):QbT m a 0=a:=by unfold QbT QO;simp
theorem QpL (m:Int) (a:List Value) (n:Nat) (b:a.length=n*5):QbT m a n=QO (JQ m) 5 n:=by unfold QbT;rw [drop_of_length_le (by omega),append_nil]
theorem QpD (m:Int) (a:List Value) (i j:Nat) (b:i*5<=j):(QbT m a i)[j]?=a[j]?:=by unfold QbT;rw [getElem?_append_right (by rw [QbA];exact b),QbA,getElem?_drop,show i*5+(j-i*5)=j by omega]
theorem Qui (m:Int) (i:Nat):QO (JQ m) 5 (i+1)=QO (JQ m) 5 i++[Xi 0,Xo,Xi m,Xv,Xo]:=by rw [<- QcY];rfl
theorem QtX (m:Int) (b:List Value) (i:Nat) (c:i*5+4<b.length) : (((((QbT m b i).set (i*5) (Xi 0)).set (i*5+1) Xo).set (i*5+2) (Xi m)).set (i*5+3) Xv).set (i*5+4) Xo=QbT m b (i+1):=by unfold QbT;have a:(QO (JQ m) 5 i).length=i*5:=QbA _ _ _;rw [drop_eq_getElem_cons (by omega),drop_eq_getElem_cons (by omega),drop_eq_getElem_cons (by omega),drop_eq_getElem_cons (by omega),drop_eq_getElem_cons (by omega)];rw [set_append_right _ _ (by omega),a,set_append_right _ _ (by omega),a,set_append_right _ _ (by omega),a,set_append_right _ _ (by omega),a,set_append_right _ _ (by omega),a];rw [Nat.sub_self,show i*5+1-i*5=1 by omega,show i*5+2-i*5=2 by omega,show i*5+3-i*5=3 by omega,show i*5+4-i*5=4 by omega,Qui,append_assoc,show (i+1)*5=i*5+1+1+1+1+1 by omega];rfl
theorem Qob (m:Int) (w:World) (t:TypeId):∀ j u,(QO (JQ m) 5 1)[j]?=some u->(w.alloc (.cells #[Xi 0,Xo,Xi m,Xv,Xo] t)).cell? (((Xa w.heap.size 0):Addr).add j)=some u := λj u a=>Q3 w #[Xi 0,Xo,Xi m,Xv,Xo] t _ rfl j u a
theorem QoO (m:Int) (w:World) (t:TypeId):∀ j u,(QO (JQ m) 5 2)[j]?=some u->(w.alloc (.cells #[Xi 0,Xo,Xi m,Xv,Xo,Xi 0,Xo,Xi m,Xv,Xo] t)).cell? (((Xa w.heap.size 0):Addr).add j)=some u := λj u a=>Q3 w #[Xi 0,Xo,Xi m,Xv,Xo,Xi 0,Xo,Xi m,Xv,Xo] t _ rfl j u a
theorem Qvl (m:Int) (w:World) (t:TypeId):∀ j u,(QO (JQ m) 5 3)[j]?=some u->(w.alloc (.cells #[Xi 0,Xo,Xi m,Xv,Xo,Xi 0,Xo,Xi m,Xv,Xo,Xi 0,Xo,Xi m,Xv,Xo] t)).cell? (((Xa w.heap.size 0):Addr).add j)=some u := λj u a=>Q3 w #[Xi 0,Xo,Xi m,Xv,Xo,Xi 0,Xo,Xi m,Xv,Xo,Xi 0,Xo,Xi m,Xv,Xo] t _ rfl j u a
theorem Qf7 (a:w.ownsRow base e size v n xs) (i:∀ b,v.ownBlock=some b->w'.heap[b]?=w.heap[b]?):w'.ownsRow base e size v n xs:=by
 refine ⟨a.1,?_⟩;rcases a.2 with j|⟨g,d,f,rfl,k,h,c⟩
 ·exact .inl j
 exact .inr ⟨g,d,f,rfl,k,(i g rfl).trans h,c⟩
structure Qbm (S:Nat->Prop) (B:Nat) (w:World) (bb bo:Nat) (vA:Value) (EA:List Value) (l:Value) (N:List TN) (k m:Nat) (wr:World) (SA:Nat->Prop) (vA':Value) (EA':List Value):Prop where
 many:m<=5
 cell:wr.cell? (Xa bb (bo+1))=some vA'
 froz:wr.frozen? (Xa bb (bo+1))=false
 len:EA'.length=EA.length+4*m
 bk:Qdf SA wr vA' EA'
 sub:∀ b,SA b->S b \/ (B<=b/\b<wr.heap.size)
 notl:∀ b,l.ownBlock=some b->¬ SA b
 notm:¬ SA w.heap.size
 own:∀ b,vA'.ownBlock=some b->vA.ownBlock=some b \/ w.heap.size<b
 rest:∀ j,(hj:j<N.length)->k<=j->wr.ownsRow B 72 2 N[j].av N[j].an (QS N[j].ats)/\∀ b,N[j].av.ownBlock=some b->¬ SA b
 other:∀ o,o≠bo+1->wr.cell? (Xa bb o)=w.cell? (Xa bb o)/\wr.frozen? (Xa bb o)=w.frozen? (Xa bb o)
 touch:Qi (λb=>b=bb \/ some b=vA.ownBlock \/ B<=b) w wr
 size:w.heap.size<wr.heap.size
theorem Qbm.next {l:Value} {N:List TN} {b:Value} {c:List Value} (a:Qbm S B w bb bo vA EA l N k m wr SA b c):Qbm S B w bb bo vA EA l N (k+1) m wr SA b c := ⟨a.many,a.cell,a.froz,a.len,a.bk,a.sub,a.notl,a.notm,a.own,λj d f=>a.rest j d (by omega),a.other,a.touch,a.size⟩
theorem Qbm.over {l:Value} {N:List TN} {d:World} {q:Value} {u:List Value} (a:Qbm S B w bb bo vA EA l N k m wr SA q u) (g:Nat) (F:l.ownBlock=some g) (K:B<=g) (I:g<w.heap.size) (h:bb≠g) (D:vA.ownBlock≠some g) (E:∀ n,n ∈ N->n.av.ownBlock≠some g) (G:d.heap.size=wr.heap.size/\d.os=wr.os/\d.tape=wr.tape/\d.output=wr.output/\∀ b,b≠g->d.heap[b]?=wr.heap[b]?):Qbm S B w bb bo vA EA l N k m d SA q u:=by
 obtain ⟨f,x,y,z,c⟩:=G;have v:wr.grownBy d (some g):=⟨x,y,z,Nat.le_of_eq f.symm,λb _ o=>c b (λe=>o (by rw [e]))⟩;refine ⟨a.many,?_,?_,a.len,⟨?_,λi H=>?_,a.bk.apart⟩,λb r=>by rw [f];exact a.sub b r,a.notl,a.notm,a.own,λj s J=>⟨?_,(a.rest j s (by omega)).2⟩,λp A=>?_,?_,by rw [f];exact a.size⟩
 ·exact (Xk bb (bo+1) (c bb h)).trans a.cell
 ·exact (Xm bb (bo+1) (c bb h)).trans a.froz
 ·refine a.bk.row.kept v ?_;cases t:q.ownBlock with
  | none=>exact .inl rfl
  | some b=>exact .inr (λe=>by
   have e:=Xb5 e;subst e;rcases a.own _ t with e|e
   ·exact D e
   omega)
 ·refine (a.bk.each i H).block (λb _ C=>⟨c b (λe=>a.notl g F (e▸C)),C⟩) (Nat.le_of_eq f.symm)
 ·refine (a.rest j s (by omega)).1.kept v ?_;cases t:N[j].av.ownBlock with| none=>exact .inl rfl| some b=>exact .inr (λe=>E N[j] (Xa0 s) (by rw [t];exact e.symm▸rfl))
 ·exact ⟨(Xk bb p (c bb h)).trans (a.other p A).1,(Xm bb p (c bb h)).trans (a.other p A).2⟩
 have:=a.touch;exact ⟨x.trans this.os,y.trans this.tape,z.trans this.output,by rw [f];exact this.size,λb r o=>(c b (λe=>o (.inr (.inr (by omega))))).trans (this.block b r o)⟩
theorem Qbm.keep {l:Value} {N:List TN} {q i:Value} {z s:List Value} (d:Qbm S B w bb bo vA EA l N k m wr SA q z) (t:k<N.length) (U:m<5) (O:bb<B) (P:B<=w.heap.size) (E:∀ b,vA.ownBlock=some b->b<B) (F:∀ b,l.ownBlock=some b->B<=b/\b<w.heap.size) (r:∀ n,n ∈ N->∀ b,n.av.ownBlock=some b->l.ownBlock≠some b/\b<w.heap.size) (D:N.Pairwise λm n=>n.av.ownBlock=none \/ n.av.ownBlock≠m.av.ownBlock) (u:Qi (λb=>b=bb \/ some b=q.ownBlock \/ some b=N[k].av.ownBlock) wr w1) (L:w1.cell? (Xa bb (bo+1))=some i) (M:w1.frozen? (Xa bb (bo+1))=false) (G:s.length=z.length+4) (H:∀ b,i.ownBlock=some b->q.ownBlock=some b \/ wr.heap.size<=b) (x:∀ g,g≠bo+1->w1.cell? (Xa bb g)=wr.cell? (Xa bb g)/\w1.frozen? (Xa bb g)=wr.frozen? (Xa bb g)) (I:Qdf (λb=>SA b \/ some b=N[k].av.ownBlock \/ (wr.heap.size<=b/\b<w1.heap.size/\some b≠i.ownBlock)) w1 i s) : ∃ J:Nat->Prop,Qbm S B w bb bo vA EA l N (k+1) (m+1) w1 J i s:=by
 have R:=u.size;have T:=d.size;have C:=r N[k] (Xa0 t);have v:∀ j,(f:j<N.length)->k+1<=j->N[j].av.ownBlock=none \/ N[j].av.ownBlock≠N[k].av.ownBlock:=λj f o=>Xb1.1 D k j t f o;have y:=(d.rest k t X0).1;refine ⟨λb=>SA b \/ some b=N[k].av.ownBlock \/ (wr.heap.size<=b/\b<w1.heap.size/\some b≠i.ownBlock),?_⟩;refine ⟨by omega,L,M,by rw [G,d.len];omega,I,λb a=>?_,λb a c=>?_,λc=>?_,λb a=>?_,λj f o=>⟨?_,λb a c=>?_⟩,λg p=>⟨(x g p).1.trans (d.other g p).1,(x g p).2.trans (d.other g p).2⟩,?_,by omega⟩
 ·rcases a with a|a|a
  ·rcases d.sub b a with d|d
   ·exact .inl d
   exact .inr ⟨d.1,by omega⟩
  ·have:=y.lt b a.symm;exact .inr ⟨this.1,by omega⟩
  exact .inr ⟨by omega,a.2.1⟩
 ·have V:=F b a;rcases c with c|c|c
  ·exact d.notl b a c
  ·exact (C b c.symm).1 a
  omega
 ·rcases c with c|c|c
  ·exact d.notm c
  ·have:=(C _ c.symm).2;omega
  omega
 ·rcases H b a with e|e
  ·exact d.own b e
  right;omega
 ·refine Qf7 (d.rest j f (by omega)).1 (λb a=>?_);have K:=r N[j] (Xa0 f) b a;have A:=(d.rest j f (by omega)).1.lt b a;refine u.block b (by omega) (λe=>?_);rcases e with e|e|e
  ·omega
  ·rcases d.own b e.symm with e|e
   ·have:=E b e;omega
   omega
  rcases v j f o with h|h
  ·rw [h] at a;cases a
  exact h (by rw [a,e])
 ·have K:=r N[j] (Xa0 f) b a;have A:=(d.rest j f (by omega));rcases c with c|c|c
  ·exact A.2 b a c
  ·rcases v j f o with h|h
   ·rw [h] at a;cases a
   exact h (by rw [a,c])
  omega
 refine Qi.trans d.touch (u.mono λb a e=>?_);rcases e with e|e|e
 ·exact .inl (.inl e)
 ·rcases d.own b e.symm with e|e
  ·exact .inl (.inr (.inl e.symm))
  exact .inr (by omega)
 exact .inl (.inr (.inr (y.lt b e.symm).1))
theorem Qfi (a:w.ownsRow B e size v n xs):w.ownsRow 0 e size v n xs:=by
 refine ⟨a.1,?_⟩;rcases a.2 with f|⟨g,c,d,e,_,b⟩
 ·exact .inl f
 exact .inr ⟨g,c,d,e,X3,b⟩
def Qj7 (S:Nat->Prop) (B a c:Nat) (i v:Value) (k E:List Value) (w w':World):Prop :=
 Qi (λb=>b=a \/ some b=i.ownBlock \/ some b=v.ownBlock \/ B<=b) w w'/\∃ f g h j S',w'.cell? (Xa a (c+1))=some f/\w'.frozen? (Xa a (c+1))=false/\w'.cell? (Xa a (c+2))=some h/\w'.frozen? (Xa a (c+2))=false /\
  g.length<=k.length+20/\g.length % 4=0/\j.length=E.length+4/\Qdf S' w' f g/\Qjv S' w' h j/\(∀ b,S b->S' b)/\(∀ b,S' b->S b \/ (B<=b/\b<w'.heap.size)) /\
  (∀ b,f.ownBlock=some b->i.ownBlock=some b \/ w.heap.size<=b)/\(∀ b,h.ownBlock=some b->(v.ownBlock=some b \/ w.heap.size<=b)/\f.ownBlock≠some b) /\
  (∀ d,d≠c+1->d≠c+2->w'.cell? (Xa a d)=w.cell? (Xa a d)/\w'.frozen? (Xa a d)=w.frozen? (Xa a d))
theorem Qp8 (S:Nat->Prop) (B f o:Nat) (I v:Value) (M E:List Value) l (N:List TN) (w:World) (db:M.length+20<=17179869184) (dc:M.length % 4=0) (dm:E.length<=17179869184) (dn:E.length % 4=0) (cH:B<=w.heap.size) (bi:∀ b,S b->b<B) (a8:N.length<=4294967296) (bc:∀ n,n ∈ N->n.ats.length<=5) (bZ:f<B) (aT:¬ S f) (bj:∀ b,I.ownBlock=some b->b<B/\b≠f) (bl:∀ b,v.ownBlock=some b->b<B/\b≠f/\I.ownBlock≠some b) (bI:w.cell? (Xa f (o+1))=some I) (bJ:w.frozen? (Xa f (o+1))=false) (bK:Qdf S w I M) (bL:w.cell? (Xa f (o+2))=some v) (bM:w.frozen? (Xa f (o+2))=false) (aU:Qjv S w v E) (ah:Zz B w l N) : Xl 28 #[.pointer (some (Xa f o)),l] w λe w'=>e=.returned (.tuple #[])/\Qj7 S B f o I v M E w w':=by
 obtain ⟨aV,O,aM,aN,aO⟩:=info_parts QiK;obtain ⟨cI,aJ,c0,c1,c2⟩:=info_parts QsY;obtain ⟨ao,L,rfl⟩:=Qy aU.row;obtain ⟨s,q,rfl⟩:=Qy ah.row;have aw:=Qa aU;have ai:=Qa ah;have ax:=Qa bK;have bm:∀ b,Value.ownBlock (.slice s N.length q)=some b->B<=b/\b<w.heap.size:=λb e=>ah.row.lt b e;have bn:∀ n,n ∈ N->∀ b,n.av.ownBlock=some b->Value.ownBlock (.slice s N.length q)≠some b/\b<w.heap.size:=λn aK b e=>⟨λx=>by
  rcases (ah.node n aK).ne with c|c
  ·rw [c] at e;cases e
  exact c (e.trans x.symm),((ah.node n aK).row.lt b e).2⟩
 have G:=Qa bm;have aD:=Qa bn;have c3:=Qa bc;have aE:=Qa bj;have Y:=Qa bl;have a0:=Qa bi;have c4:=Qa bI;have c5:=Qa bJ;have c6:=Qa bL;have c7:=Qa bM;clear aU ah bK bm bn bc bj bl bi;go_enter Tryz.func28,Tryz.ntmps28;go_wp2_with fail;have c8:Hid (-1000-(E.length:Int) / 4=Z3 E.length):=rfl;have d5:(-1000:Int)-(E.length:Int) / 4<=0:=by omega
 have d6:(-9000000000000:Int)<=-1000-(E.length:Int) / 4:=by omega
 generalize c9:(-1000-(E.length:Int) / 4)=t at *;clear c9;generalize a1:w.alloc (.cells #[Xi 0,Xo,Xi t,Xv,Xo] 33)=cJ;have D:=Xt a1;have ca:=X1 a1;have bN:=Xz a1 0 (Xi 0) rfl;have bO:=Xz a1 1 Xo rfl;have bP:=Xz a1 2 (Xi t) rfl;have bQ:=Xz a1 3 Xv rfl;have bR:=Xz a1 4 Xo rfl;have bo:=Qa (Qfi (QX ai.out.row D));have bp:Hid (Qbm S B w f o I M (.slice s N.length q) N 0 0 cJ S I M):=Qa ⟨X3,(Xh D f (o+1) (by show f<_;omega)).trans c4.out,(Xj D f (o+1) (by show f<_;omega)).trans c5.out,by omega, ⟨QX ax.out.row D,λi O=>(ax.out.each i O).block (λb y c=>⟨D.block b y,c⟩) D.size,ax.out.apart⟩,λb c=>.inl c,λb e c=>by have:=G.out b e;have:=a0.out b c;omega,λc=>by have:=a0.out _ c;omega,λb e=>.inl e, λj aJ _=>⟨QX (ai.out.node N[j] (Xa0 aJ)).row D,λb e c=>by have:=((ai.out.node N[j] (Xa0 aJ)).row.lt b e).1;have:=a0.out b c;omega⟩, λA _=>⟨D.cell (p:=(Xa f A)) (by show f<_;omega),D.frozen (p:=(Xa f A)) (by show f<_;omega)⟩,Qi.of_below D,by omega⟩;clear a1 D ca bI bJ bL bM;go_loopw [5,6] (λbY i wr=>∃ (k m:Nat) (P:Nat->Prop) (F:Value) (a2:List Value),k<=N.length/\m<=5/\bY=Xi m/\i=Xi k/\Hid (wr.ownsRow 0 33 5 (.slice s N.length q) N.length (QbT t (ZW N) k))/\wr.cell? (Xa w.heap.size 0)=some (Xi 0)/\wr.cell? (Xa w.heap.size 1)=some Xo/\wr.cell? (Xa w.heap.size 2)=some (Xi t)/\wr.cell? (Xa w.heap.size 3)=some Xv/\wr.cell? (Xa w.heap.size 4)=some Xo /\ Hid (Qbm S B w f o I M (.slice s N.length q) N k m wr P F a2)) (λ_ i _=>N.length-(intOf i).toNat);·exact ⟨0,0,S,I,M,X3,X3,rfl,rfl,by rw [Qo6];exact bo,bN,bO,bP,bQ,bR,bp⟩
 case round =>
  obtain ⟨k,m,P,F,a2,dp,bq,rfl,rfl,a9,aW,aX,aY,aZ,b0,C⟩:=hrel;clear bN bO bP bQ bR bo bp;have cb:=C.out.size;have cc:(ZW N).length=N.length*5:=Qll N;by_cases a3:k<N.length
  ·obtain ⟨g,rfl⟩:∃ g,s=some (Xa g 0):=by
    rcases ai.out.row.2 with ⟨_,e⟩|⟨g,cd,ce,e,_⟩
    ·omega
    simp only [Value.slice.injEq] at e;exact ⟨g,e.1⟩
   have br:=G.out g rfl;have a4:∀ r,r<5->wr.cell? (Xa g (k*5+r))=N[k].cells[r]?:=λr cK=>by rw [a9.out.cellAt (k*5+r) (by omega),QpD t (ZW N) k (k*5+r) (by omega)];exact Qj5 N k r a3 cK
   have u0:Xc wr g (k*5) (Xi N[k].d):=a4 0 (by omega);have u1:Xc wr g (k*5+1) (.string N[k].tag):=a4 1 (by omega);have u2:Xc wr g (k*5+2) (Xi N[k].key):=a4 2 (by omega);have u3:Xc wr g (k*5+3) (.slice N[k].ao N[k].an N[k].ac):=a4 3 (by omega);have u4:Xc wr g (k*5+4) (.string N[k].text):=a4 4 (by omega);have aj:∀ r,Xf wr g r:=λr=>a9.out.frozenAt r;have cL:=aj (k*5);have cM:=aj (k*5+1);have cN:=aj (k*5+2);have cO:=aj (k*5+3);have cP:=aj (k*5+4);have cf:w.heap.size≠g:=by omega
   have d7:g≠w.heap.size:=by omega
   have bd:∀ n,n ∈ N->n.av.ownBlock≠some g:=λn aK e=>(aD.out n aK g e).1 rfl;have cg:I.ownBlock≠some g:=λe=>by have:=(aE.out g e).1;omega
   have bs:f≠g:=by omega
   have d8:(N[k].an:Int)<=5:=by have h:=(ai.out.node N[k] (Xa0 a3)).an;have X:=c3.out N[k] (Xa0 a3);omega
   -- the node written over
   have bb:Hid (∀ (J:World) (b1:Nat) (aa:Nat->Prop) (ak:Value) (al:List Value),J.ownsRow 0 33 5 (Xe g N.length q) N.length (QbT t (ZW N) k)->J.cell? (Xa w.heap.size 0)=some (Xi 0)/\J.cell? (Xa w.heap.size 1)=some Xo/\J.cell? (Xa w.heap.size 2)=some (Xi t)/\J.cell? (Xa w.heap.size 3)=some Xv/\J.cell? (Xa w.heap.size 4)=some Xo->Qbm S B w f o I M (Xe g N.length q) N (k+1) b1 J aa ak al -> ∀ K,K=((((J.setCell (Xa g (k*5)) (Xi 0)).setCell (Xa g (k*5+1)) Xo).setCell (Xa g (k*5+2)) (Xi t)).setCell (Xa g (k*5+3)) Xv).setCell (Xa g (k*5+4)) Xo -> Hid (K.ownsRow 0 33 5 (Xe g N.length q) N.length (QbT t (ZW N) (k+1)))/\K.cell? (Xa w.heap.size 0)=some (Xi 0)/\K.cell? (Xa w.heap.size 1)=some Xo/\K.cell? (Xa w.heap.size 2)=some (Xi t)/\K.cell? (Xa w.heap.size 3)=some Xv/\K.cell? (Xa w.heap.size 4)=some Xo/\Hid (Qbm S B w f o I M (Xe g N.length q) N (k+1) b1 K aa ak al)):=by
    refine Qa λJ b1 aa ak al cQ ay ch K ab=>?_;have bf:∀ b,b≠g->K.heap[b]?=J.heap[b]?:=λb y=>by rw [ab];exact (X5 y).trans ((X5 y).trans ((X5 y).trans ((X5 y).trans (X5 y))))
    have ci:K.heap.size=J.heap.size:=by rw [ab,QJ,QJ,QJ,QJ,QJ]
    have bt:=(((((cQ.stored (k*5) (Xi 0)).1.stored (k*5+1) Xo).1.stored (k*5+2) (Xi t)).1.stored (k*5+3) Xv).1.stored (k*5+4) Xo).1;rw [QtX t (ZW N) k (by omega),<- ab] at bt;have ap:∀ A,K.cell? (Xa w.heap.size A)=J.cell? (Xa w.heap.size A):=λA=>Xk w.heap.size A (bf _ cf);exact ⟨Qa bt,(ap 0).trans ay.1,(ap 1).trans ay.2.1,(ap 2).trans ay.2.2.1,(ap 3).trans ay.2.2.2.1,(ap 4).trans ay.2.2.2.2,Qa (ch.over g rfl br.1 br.2 bs cg bd ⟨ci,by rw [ab];rfl,by rw [ab];rfl,by rw [ab];rfl,bf⟩)⟩
   have d9:=Qa a4;clear a4 aj;by_cases bW:0<N[k].an/\m<5
   ·obtain ⟨dd,cj⟩:=bW;have bS:(0:Int)<(N[k].an:Int):=by omega
    have cR:(m:Int)<5:=by omega
    have aq:=C.out.rest k a3 X0;have aA:∀ b,F.ownBlock=some b->b≠f/\N[k].av.ownBlock≠some b/\b≠g/\b≠w.heap.size:=λb e=>by
     rcases C.out.own b e with e|e
     ·have h:=aE.out b e;exact ⟨h.2,λx=>by have:=(aq.1.lt b x).1;omega,by omega,by omega⟩
     exact ⟨by omega,λx=>by have:=(aD.out N[k] (Xa0 a3) b x).2;omega,by omega,by omega⟩
    have bX:Hid (Xl 50 #[.pointer (some (Xa f o)),.slice N[k].ao N[k].an N[k].ac] wr λe w'=>e=.returned (.tuple #[]) /\ Qi (λb=>b=f \/ some b=F.ownBlock \/ some b=N[k].av.ownBlock) wr w'/\∃ aL bT,w'.cell? (Xa f (o+1))=some aL/\w'.frozen? (Xa f (o+1))=false/\bT.length=a2.length+4/\(∀ b,aL.ownBlock=some b->F.ownBlock=some b \/ wr.heap.size<=b)/\(∀ A,A≠o+1->w'.cell? (Xa f A)=wr.cell? (Xa f A)/\w'.frozen? (Xa f A)=wr.frozen? (Xa f A)) /\ Qdf (λb=>P b \/ some b=N[k].av.ownBlock \/ (wr.heap.size<=b/\b<w'.heap.size/\some b≠aL.ownBlock)) w' aL bT):=by
     refine Qa (QuD P f o F a2 N[k].av N[k].an (QS N[k].ats) wr ?_ ?_ (λb c=>?_) (by omega) C.out.cell C.out.froz C.out.bk (Qfi aq.1) (λc=>?_) (λe=>(aA f e.symm).1 rfl) (λe=>by have:=(aq.1.lt f e.symm).1;omega) (.inr (λe=>?_)) aq.2)
     ·have:=C.out.len;omega
     ·have:=C.out.len;omega
     ·rcases C.out.sub b c with c|c
      ·have:=a0.out b c;omega
      exact c.2
     ·rcases C.out.sub f c with c|c
      ·exact aT c
      omega
     cases b2:F.ownBlock with
     | none =>
      rw [b2] at e;rcases aq.1.2 with ⟨_,b3⟩|⟨dq,cd,ce,bU,_⟩
      ·omega
      rw [bU] at e;cases e
     | some b=>exact (aA b b2).2.1 (e.trans b2)
    go_wp2_with (first|(go_at_call 50;refine (Qb bX).mono ?_;rintro e w1 ⟨rfl,aP,ak,al,bu,bv,aF,bw,bg,bx⟩;have ck:=Qa aP;have cl:=Qa (Qbm.keep (Qb C) a3 cj bZ cH (λb e=>(Qb aE b e).1) (Qb G) (Qb aD) (Qb ai).far aP bu bv aF bw bg bx);clear aP bu bv aF bw bg bx;have aQ:∀ b,b<wr.heap.size->b≠f->F.ownBlock≠some b->N[k].av.ownBlock≠some b->w1.heap[b]?=wr.heap[b]?:=λb y h X b4=>(Qb ck).block b y (λe=>by rcases e with e|e|e;exact h e;exact X e.symm;exact b4 e.symm);have H:=aQ g (by omega) (Ne.symm bs) (λe=>(aA g e).2.2.1 rfl) (bd N[k] (Xa0 a3));have ad:=aQ w.heap.size cb (by omega) (λe=>(aA _ e).2.2.2 rfl) (λe=>by have:=(Qb aD N[k] (Xa0 a3) _ e).2;omega);have cS:=(Xk w.heap.size 0 ad).trans aW;have cT:=(Xk w.heap.size 1 ad).trans aX;have cU:=(Xk w.heap.size 2 ad).trans aY;have cV:=(Xk w.heap.size 3 ad).trans aZ;have cW:=(Xk w.heap.size 4 ad).trans b0;have dr:=(Xk g (k*5) H).trans u0;have ds:=(Xk g (k*5+1) H).trans u1;have dt:=(Xk g (k*5+2) H).trans u2;have du:=(Xk g (k*5+3) H).trans u3;have dv:=(Xk g (k*5+4) H).trans u4;have dw:=(Xm g (k*5) H).trans cL;have dx:=(Xm g (k*5+1) H).trans cM;have x:=(Xm g (k*5+2) H).trans cN;have bU:=(Xm g (k*5+3) H).trans cO;have dy:=(Xm g (k*5+4) H).trans cP;have cm:=Qa H;clear aQ H ad));go_roundw
    ·obtain ⟨aa,cX⟩:=cl.out;have:=bb.out w1 (m+1) aa ak al (Qf7 a9.out (λb e=>by cases e;exact cm.out)) ⟨cS,cT,cU,cV,cW⟩ cX _ rfl;exact ⟨k+1,m+1,aa,ak,al,by omega,by omega,by go_num,by go_num,this⟩
    simp [intOf];omega
   have bV:=Qa (bb.out wr m P F a2 a9.out ⟨aW,aX,aY,aZ,b0⟩ C.out.next);by_cases dz:0<N[k].an
   ·have bS:(0:Int)<(N[k].an:Int):=by omega
    have cR:¬ (m:Int)<5:=by omega
    go_wp2;go_roundw;·exact ⟨k+1,m,P,F,a2,by omega,bq,by go_num,by go_num,bV.out _ rfl⟩
    simp [intOf];omega
   have bS:¬ (0:Int)<(N[k].an:Int):=by omega
   go_wp2;go_roundw;·exact ⟨k+1,m,P,F,a2,by omega,bq,by go_num,by go_num,bV.out _ rfl⟩
   simp [intOf];omega
  have bz:k=N.length:=by omega
  have cY:Hid (wr.ownsRow 0 33 5 (.slice s N.length q) N.length (QO (JQ t) 5 N.length)):=by have:=a9.out;rw [bz,QpL t (ZW N) N.length cc] at this;exact Qa this
  clear a9 bz;have de:f<w.heap.size:=by omega
  have bA:some f≠Value.ownBlock (.slice ao E.length L):=λe=>(Y.out f e.symm).2.1 rfl;have aG:some f≠Value.ownBlock (.slice s N.length q):=λe=>by have:=(G.out f e.symm).1;omega
  have aH:Value.ownBlock (.slice s N.length q)=none \/ Value.ownBlock (.slice s N.length q)≠Value.ownBlock (.slice ao E.length L):=by cases a5:Value.ownBlock (.slice s N.length q) with| none=>exact .inl rfl| some b=>exact .inr (λe=>by have h:=G.out b a5;have X:=(Y.out b e.symm).1;omega)
  have aR:Hid (∀ r,Value.ownBlock (.slice s N.length q)≠some (Addr.block (Xa w.heap.size r))):=Qa λr e=>by have:=(G.out _ e).2;simp at this
  have cZ:Hid (wr.ownsRow 0 24 1 (.slice ao E.length L) E.length E):=Qa (Qf7 aw.out.row (λb e=>by have h:=Y.out b e;exact C.out.touch.block b (by omega) (λc=>by rcases c with c|c|c;exact h.2.1 c;exact h.2.2 c.symm;omega)));have cn:Xc wr f (o+2) (.slice ao E.length L):=(C.out.other (o+2) (by omega)).1.trans c6.out;have co:Xf wr f (o+2):=(C.out.other (o+2) (by omega)).2.trans c7.out;go_wp2_with (first|(at_builtin;refine Qb7 _ rfl (.tmp 48) (.tmp 50) 24 rfl 33 aV _ 5 72 Tryz.underlying24 O aM aN aO rfl (JQ t) (Qix t) (.slice s N.length q) N.length _ rfl ((Qb cY).alloc _) (Xa wr.heap.size 0) 1 1 rfl (by omega) (Qob t _ _) (by omega) (by omega) ?_;intro q1 w1 bB cp U df;obtain ⟨b5,b6,rfl⟩:=Qy (Qb bB);have cq:=(Qb U).size;rw [Ju] at cq;have ar:Hid (w1.heap[w.heap.size]?=wr.heap[w.heap.size]?):=Qa (Z1 U (by omega) (Ne.symm (Qb aR 0)));have cr:=(Xk w.heap.size 0 (Qb ar)).trans aW;have cs:=(Xk w.heap.size 1 (Qb ar)).trans aX;have ct:=(Xk w.heap.size 2 (Qb ar)).trans aY;have cu:=(Xk w.heap.size 3 (Qb ar)).trans aZ;have cv:=(Xk w.heap.size 4 (Qb ar)).trans b0)|(at_builtin;refine Qb7 _ rfl (.tmp 52) (.tmp 55) 24 rfl 33 aV _ 5 72 Tryz.underlying24 O aM aN aO rfl (JQ t) (Qix t) (.slice s N.length q) N.length _ rfl ((Qb cp).alloc _) (Xa w1.heap.size 0) 2 2 rfl (by omega) (QoO t _ _) (by omega) (by omega) ?_;intro q2 w2 bC aF V cw;obtain ⟨b7,b8,rfl⟩:=Qy (Qb bC);have cx:=(Qb V).size;rw [Ju] at cx;have au:Hid (w2.heap[w.heap.size]?=w1.heap[w.heap.size]?):=Qa (Z1 V (by omega) (Ne.symm (Qb aR 0)));have dg:=(Xk w.heap.size 0 (Qb au)).trans cr;have dh:=(Xk w.heap.size 1 (Qb au)).trans cs;have di:=(Xk w.heap.size 2 (Qb au)).trans ct;have dj:=(Xk w.heap.size 3 (Qb au)).trans cu;have dk:=(Xk w.heap.size 4 (Qb au)).trans cv)|(at_builtin;refine Qb7 _ rfl (.tmp 57) (.tmp 61) 24 rfl 33 aV _ 5 72 Tryz.underlying24 O aM aN aO rfl (JQ t) (Qix t) (.slice s N.length q) N.length _ rfl ((Qb aF).alloc _) (Xa w2.heap.size 0) 3 3 rfl (by omega) (Qvl t _ _) (by omega) (by omega) ?_;intro q3 w3 bD cy W bE;obtain ⟨b9,ba,rfl⟩:=Qy (Qb bD);have cz:=(Qb W).size;rw [Ju] at cz;have dl:Hid (w3.heap[w.heap.size]?=w2.heap[w.heap.size]?):=Qa (Z1 W (by omega) (Ne.symm (Qb aR 0)));have ae:Hid (w3.heap[f]?=wr.heap[f]?):=Qa ((Z1 W (by omega) aG).trans ((Z1 V (by omega) aG).trans (Z1 U (by omega) aG)));have cA:=(Xk f (o+2) (Qb ae)).trans cn;have cB:=(Xm f (o+2) (Qb ae)).trans co;have cC:=Qa (Qb6 (Qb6 (Qb6 (Qb cZ) U aH) V aH) W aH))|(at_builtin;refine Zp _ rfl (.tmp 67) (.tmp 72) 38 rfl 0 24 cI _ 1 24 Tryz.underlying38 aJ c0 c1 c2 rfl (.slice ao E.length L) E.length E rfl ((Qb cC).alloc _) (some (Xa w3.heap.size 0)) 4 4 [.slice s N.length q,.slice b5 (N.length+1) b6,.slice b7 (N.length+2) b8,.slice b9 (N.length+3) ba] rfl (by simp) rfl (Q3 _ _ _) (by simp [Value.oneCell']) (by omega) (by omega) X3 ?_;intro dA w4 bF a7 _;obtain ⟨R,T,rfl⟩:=Qy (Qb bF);have cD:=(Qb a7).size;rw [Ju] at cD;have af:Hid (w4.heap[f]?=w3.heap[f]?):=Qa (Z1 a7 (by omega) bA);have cE:=(Xk f (o+2) (Qb af)).trans cA;have cF:=(Xm f (o+2) (Qb af)).trans cB));go_end0;have aS:∀ b,b<w3.heap.size->b≠f->some b≠Value.ownBlock (.slice ao E.length L)->(w4.setCell (Xa f (o+2)) (.slice R (E.length+4) T)).heap[b]?=w3.heap[b]?:=λb y h X => (Below.heap_setCell w4 (Xa f (o+2)) _ b h).trans (Z1 a7 y X);have D:∀ b,b<wr.heap.size->some b≠Value.ownBlock (.slice s N.length q)->w3.heap[b]?=wr.heap[b]?:=λb y h => (Z1 W (by omega) h).trans ((Z1 V (by omega) h).trans (Z1 U (by omega) h));have a6:(w4.setCell (Xa f (o+2)) (.slice R (E.length+4) T)).heap.size=w4.heap.size:=QJ _ _ _;have ag:∀ b,Value.ownBlock (.slice R (E.length+4) T)=some b->Value.ownBlock (.slice ao E.length L)=some b \/ b=w3.heap.size+1:=λb e=>by
   rcases a7.out.at with c|c
   ·exact .inl (c.symm.trans e)
   rw [c,Ju] at e;exact .inr (Xb5 e).symm
  have bh:∀ b,Value.ownBlock (.slice s N.length q)=some b->Value.ownBlock (.slice ao E.length L)≠some b:=λb e x=>by
   rcases aH with c|c
   ·rw [c] at e;cases e
   exact c (e.trans x.symm)
  have z:=C.out;have aB:∀ b,F.ownBlock=some b->b<wr.heap.size/\b≠f/\Value.ownBlock (.slice s N.length q)≠some b/\Value.ownBlock (.slice ao E.length L)≠some b:=λb e=>by
   refine ⟨(z.bk.row.lt b e).2,?_⟩;rcases z.own b e with e|e
   ·have h:=aE.out b e;exact ⟨h.2,λx=>by have:=(G.out b x).1;omega,λx=>(Y.out b x).2.2 e⟩
   exact ⟨by omega,λx=>by have:=(G.out b x).2;omega,λx=>by have:=(Y.out b x).1;omega⟩
  -- a block of the book's own,a4
  have aC:∀ b,b<wr.heap.size->b≠f->Value.ownBlock (.slice s N.length q)≠some b->Value.ownBlock (.slice ao E.length L)≠some b->(w4.setCell (Xa f (o+2)) (.slice R (E.length+4) T)).heap[b]?=wr.heap[b]?:=λb y h X b4 => (aS b (by omega) h (λe=>b4 e.symm)).trans (D b y (λe=>X e.symm));have bG:∀ b,P b->b<wr.heap.size/\b≠f/\Value.ownBlock (.slice s N.length q)≠some b/\Value.ownBlock (.slice ao E.length L)≠some b:=λb c=>by
   refine ⟨?_,λe=>?_,λe=>z.notl b e c,λe=>?_⟩
   ·rcases z.sub b c with c|c
    ·have:=a0.out b c;omega
    exact c.2
   ·rcases z.sub b c with c|c
    ·exact aT (e▸c)
    omega
   rcases z.sub b c with c|c
   ·exact aw.out.apart b e c
   have:=(Y.out b e).1;omega
  -- the Qir lists
  have d0:Jk (λb=>some b=Value.ownBlock (.slice s N.length q) \/ wr.heap.size<=b) (JQ t) 5 w3 (.slice s N.length q):=Qdm cy.out (by omega) (λb e=>.inl e.symm);have d1:Jk (λb=>some b=Value.ownBlock (.slice s N.length q) \/ wr.heap.size<=b) (JQ t) 5 w3 (.slice b5 (N.length+1) b6):=by
   refine Jk.keeps (w:=w1) (Qdm (by rw [<- QcY];exact bB.out) (by omega) (λb e=>?_)) (((JI.alloc _ _ _ _).trans cw.out).trans ((JI.alloc _ _ _ _).trans bE.out)) (by omega) (λ_ _ c=>c);rcases U.out.at with c|c
   ·exact .inl (e.symm.trans c)
   rw [c,Ju] at e;right;have:=Xb5 e;omega
  have d2:Jk (λb=>some b=Value.ownBlock (.slice s N.length q) \/ wr.heap.size<=b) (JQ t) 5 w3 (.slice b7 (N.length+2) b8):=by
   refine Jk.keeps (w:=w2) (Qdm (by rw [<- QcY];exact bC.out) (by omega) (λb e=>?_)) ((JI.alloc _ _ _ _).trans bE.out) (by omega) (λ_ _ c=>c);rcases V.out.at with c|c
   ·exact .inl (e.symm.trans c)
   rw [c,Ju] at e;right;have:=Xb5 e;omega
  have d3:Jk (λb=>some b=Value.ownBlock (.slice s N.length q) \/ wr.heap.size<=b) (JQ t) 5 w3 (.slice b9 (N.length+3) ba):=by
   refine Qdm (by rw [<- QcY];exact bD.out) (by omega) (λb e=>?_);rcases W.out.at with c|c
   ·exact .inl (e.symm.trans c)
   rw [c,Ju] at e;right;have:=Xb5 e;omega
  have aI:∀ u,Jk (λb=>some b=Value.ownBlock (.slice s N.length q) \/ wr.heap.size<=b) (JQ t) 5 w3 u->Jk (λb=>P b \/ S b \/ some b=Value.ownBlock (.slice s N.length q) \/ (wr.heap.size<=b/\b<(w4.setCell (Xa f (o+2)) (.slice R (E.length+4) T)).heap.size/\some b≠Value.ownBlock (.slice R (E.length+4) T))) (JQ t) 5 (w4.setCell (Xa f (o+2)) (.slice R (E.length+4) T)) u:=by
   intro u d4;refine d4.block (λb y c=>?_) (by rw [a6];omega);rcases c with c|c
   ·refine ⟨aS b y (λe=>aG (by rw [<- e];exact c)) (λe=>bh b c.symm e.symm),.inr (.inr (.inl c))⟩
   refine ⟨aS b y (λe=>by omega) (λe=>by have:=(Y.out b e.symm).1;omega),.inr (.inr (.inr ⟨c,by rw [a6];omega,λe=>?_⟩))⟩;rcases ag b e.symm with e|e
   ·have:=(Y.out b e).1;omega
   omega
  have az:=z.touch;refine ⟨rfl,⟨?_,?_,?_,?_,?_⟩,F,a2,.slice R (E.length+4) T,E++[.slice s N.length q,.slice b5 (N.length+1) b6,.slice b7 (N.length+2) b8,.slice b9 (N.length+3) ba],(λb=>P b \/ S b \/ some b=Value.ownBlock (.slice s N.length q) \/ (wr.heap.size<=b/\b<(w4.setCell (Xa f (o+2)) (.slice R (E.length+4) T)).heap.size/\some b≠Value.ownBlock (.slice R (E.length+4) T))),?_,?_,?_,?_,?_,?_,?_,⟨?_,?_,?_⟩,⟨?_,?_,?_⟩,λb c=>.inr (.inl c),?_,?_,?_,?_⟩
  ·exact a7.out.by.os.trans (W.out.by.os.trans (V.out.by.os.trans (U.out.by.os.trans az.os)))
  ·exact a7.out.by.tape.trans (W.out.by.tape.trans (V.out.by.tape.trans (U.out.by.tape.trans az.tape)))
  ·exact a7.out.by.output.trans (W.out.by.output.trans (V.out.by.output.trans (U.out.by.output.trans az.output)))
  ·rw [a6];omega
  ·intro b y a8;refine (aC b (by omega) (λe=>a8 (.inl e)) (λe=>a8 (.inr (.inr (.inr (G.out b e).1)))) (λe=>a8 (.inr (.inr (.inl e.symm))))).trans (az.block b y (λc=>?_));rcases c with c|c|c
   ·exact a8 (.inl c)
   ·exact a8 (.inr (.inl c))
   exact a8 (.inr (.inr (.inr c)))
  ·exact (Xb9 _ _ _ _ (λe=>by cases e)).trans ((Xk f (o+1) af.out).trans ((Xk f (o+1) ae.out).trans z.cell))
  ·exact (Xd4 ..).trans ((Xm f (o+1) af.out).trans ((Xm f (o+1) ae.out).trans z.froz))
  ·simp [go_sem,cE]
  ·simp [go_sem,cF]
  ·have:=z.len;have:=z.many;omega
  ·have:=z.len;omega
  ·rw [length_append];rfl
  ·exact Qf7 z.bk.row (λb e=>by have h:=aB b e;exact aC b h.1 h.2.1 h.2.2.1 h.2.2.2)
  ·intro i O;exact (z.bk.each i O).block (λb y c=>⟨by have h:=bG b c;exact aC b h.1 h.2.1 h.2.2.1 h.2.2.2,.inl c⟩) (by rw [a6];omega)
  ·intro b e c;have h:=aB b e;rcases c with c|c|c|c
   ·exact z.bk.apart b e c
   ·rcases z.own b e with x|x
    ·exact ax.out.apart b x c
    have:=a0.out b c;omega
   ·exact h.2.2.1 c.symm
   omega
  ·rw [length_append];refine Qbl bF.out (.inr (λe=>?_));rcases ag f e with e|e
   ·exact bA e.symm
   omega
  ·intro i O;by_cases bH:i<E.length
   ·rw [getElem_append_left bH];refine (aw.out.each i bH).block (λb y c=>⟨?_,.inr (.inl c)⟩) (by rw [a6];omega);have da:=a0.out b c;have b3:b≠f:=λe=>aT (e▸c);have h:Value.ownBlock (.slice s N.length q)≠some b:=λe=>by have:=(G.out b e).1;omega
    refine (aC b (by omega) b3 h (λe=>aw.out.apart b e c)).trans (az.block b y (λa5=>?_));rcases a5 with a5|a5|a5
    ·exact b3 a5
    ·exact ax.out.apart b a5.symm c
    omega
   have cG:Z3 i=t:=by rw [length_append] at O;simp at O;rw [c8.out];unfold Z3;omega
   rw [getElem_append_right (by omega),cG];exact Qir (aI _ d0) (aI _ d1) (aI _ d2) (aI _ d3) _ _
  ·intro b e c;rcases c with c|c|c|c
   ·have h:=bG b c;rcases ag b e with e|e
    ·exact h.2.2.2 e
    omega
   ·rcases ag b e with e|e
    ·exact aw.out.apart b e c
    have:=a0.out b c;omega
   ·rcases ag b e with x|x
    ·exact bh b c.symm x
    have:=(G.out b c.symm).2;omega
   exact c.2.2 e.symm
  ·intro b c;rcases c with c|c|c|c
   ·rcases z.sub b c with c|c
    ·exact .inl c
    exact .inr ⟨c.1,by rw [a6];omega⟩
   ·exact .inl c
   ·have:=G.out b c.symm;exact .inr ⟨this.1,by rw [a6];omega⟩
   exact .inr ⟨by omega,c.2.1⟩
  ·intro b e;rcases z.own b e with e|e
   ·exact .inl e
   right;omega
  ·intro b e;rcases ag b e with e|e
   ·exact ⟨.inl e,λx=>(aB b x).2.2.2 e⟩
   exact ⟨.inr (by omega),λx=>by have:=(aB b x).1;omega⟩
  intro A h X;exact ⟨(Xb9 _ _ _ _ (λe=>X (by cases e;rfl))).trans ((Xk f A af.out).trans ((Xk f A ae.out).trans (z.other A h).1)), (Xd4 ..).trans ((Xm f A af.out).trans ((Xm f A ae.out).trans (z.other A h).2))⟩
def Qaj (m:Int):Nat->Value:=λr=>match r with|0=>Xi m|1=>Xi 0|2=>Xi 0|3=>Xi 0|4=>Xi 0|_=>Xo
def Qm7 (m:Int):Nat->Value:=λr=>match r with|1=>Xi m|_=>Xi 0
def QnS (m:Int):Nat->Value:=λr=>match r with|0=>Xi m|_=>Xi 0
theorem LAt.get {p:Nat} {pat:Nat->Nat->Value} (g:LAt S w e (.slice ao E.length p) E pat size) (q:0<size) (h:i<E.length) : ∃ a,ao=some (Xa a 0)/\a<w.heap.size/\∃ d n c,w.cell? (Xa a i)=some (.slice d n c)/\n<=1099511627776/\∀ j,j<n->∃ b,d=some (Xa b 0)/\b<w.heap.size/\∀ r,r<size->w.cell? (Xa b (j*size+r))=some (pat i r):=by
 rcases g.row.2 with ⟨_,e⟩|⟨a,A,B,e,_,s,_⟩
 ·omega
 simp only [Value.slice.injEq] at e;obtain ⟨rfl,_,rfl⟩:=e;obtain ⟨d,n,c,t,u,v,k⟩:=g.each i h;refine ⟨a,rfl,(Xd0.1 s).1,d,n,c,?_,u,λj l=>?_⟩
 ·rw [g.row.cellAt i (by omega),getElem?_eq_getElem h,t]
 have o:j*size<n*size:=(Nat.mul_lt_mul_right q).2 l;obtain ⟨b,f,_⟩:=k (j*size) o;refine ⟨b,f,(v _ f).2,λr x=>?_⟩;have y:j*size+r<n*size:=by have:(j+1)*size<=n*size:=Nat.mul_le_mul_right size l;rw [Nat.add_mul] at this;omega
 obtain ⟨C,m,z⟩:=k (j*size+r) y;rw [f] at m;cases m;rw [z,Nat.mul_comm,Nat.mul_add_mod,Nat.mod_eq_of_lt x]
theorem QsG S (o x:Nat) (w:World) (av:Value) (M:List Value) (aX:M.length<=17179869184) (ag:Xc w o x av) (ah:LAt S w 69 av M (λi=>Qa0 (Z3 i)) 1) (aw:Value) (N:List Value) (aY:N.length<=17179869184) (ax:Xc w o (x+1) aw) (ai:LAt S w 31 aw N (λi=>Qaq (QaF i)) 2) (ay:Value) (O:List Value) (aZ:O.length<=17179869184) (az:Xc w o (x+2) ay) (aj:LAt S w 24 ay O (λi=>JQ (Z3 i)) 5) (aA:Value) (R:List Value) (b0:R.length<=17179869184) (aB:Xc w o (x+3) aA) (ak:LAt S w 25 aA R (λi=>Qaj (Z3 i)) 8) (aC:Value) (T:List Value) (b1:T.length<=17179869184) (aD:Xc w o (x+4) aC) (al:LAt S w 75 aC T (λi=>Qm7 (Z3 i)) 4) (aE:Value) (U:List Value) (b2:U.length<=17179869184) (aF:Xc w o (x+5) aE) (ao:LAt S w 78 aE U (λi=>QnS (Z3 i)) 2) : Xl 8 #[.pointer (some (Xa o x))] w λe w'=>e=.returned (.bool true)/\Xb w w':=by
 have A:=block_lt_of_cell ag;obtain ⟨b3,b4,rfl⟩:=Qy ah.row;have aK:=Qa ah;obtain ⟨b5,b6,rfl⟩:=Qy ai.row;have aL:=Qa ai;obtain ⟨b7,b8,rfl⟩:=Qy aj.row;have aM:=Qa aj;obtain ⟨b9,ba,rfl⟩:=Qy ak.row;have aN:=Qa ak;obtain ⟨bb,bc,rfl⟩:=Qy al.row;have aO:=Qa al;obtain ⟨bd,bf,rfl⟩:=Qy ao.row;have B:=Qa ao;clear ah ai aj ak al ao;have A:o<w.heap.size:=A;have aW:∀ w a l c,(binOp .eql 31 (.slice a l c) Xv).run Tryz.prog w=.ok (.bool a.isNone) w:=λw a l c => Lib.run_eql_slice_nil (P:=Tryz.prog) w 31 72 a l c 0 0 Tryz.underlying31;go_enter Tryz.func8,Tryz.ntmps8;go_wp2;go_loopw [3,4,5] (λs i _ wr=>∃ k:Nat,k<=M.length/\s=.bool true/\i=Xi k/\Hid (Xb w wr)) (λ_ i _ _=>M.length-(intOf i).toNat);·exact ⟨0,X3,rfl,rfl,Qa X4⟩
 case round =>
  obtain ⟨k,a3,rfl,rfl,K⟩:=hrel;obtain ⟨g,rfl⟩:∃ g,g=wr:=⟨_,rfl⟩;have a4:=(Xh K.out o x (by show o<_;exact A)).trans ag;by_cases C:k<M.length
  ·obtain ⟨q,rfl,t,a5,m,a6,z,a7,y⟩:=aK.out.get (by omega) C;have G:=(Xh K.out q k t).trans z;have B:=Qa y;have a8:(0:Int)<=(k:Int):=by omega
   have a9:(k:Int)<(M.length:Int):=by omega
   have J:=Qa K.out.size;clear y z;go_wp2;go_loopw [3,5] (λs j H=>∃ b:Nat,b<=m/\s=.bool true/\j=Xi b/\Hid (Xb g H)) (λ_ j _=>m-(intOf j).toNat);·exact ⟨0,X3,rfl,rfl,Qa X4⟩
   case round =>
    obtain ⟨b,a2,rfl,rfl,h⟩:=hrel;have f:=K.out.trans (h.out.mono K.out.size);have aa:=(Xh f o x (by show o<_;exact A)).trans ag;have ab:=(Xh h.out q k (by show q<_;have:=K.out.size;omega)).trans G;by_cases D:b<m
    ·obtain ⟨d,rfl,r,n⟩:=B.out b D;have ac:wr.cell? (Xa d b)=some (Xi (-1000-(k:Int) / 4)):=(Xh f d _ r).trans (by have:=n 0 (by omega);rw [Nat.mul_one] at this;exact this);have ad:(0:Int)<=(b:Int):=by omega
     have ae:(b:Int)<(m:Int):=by omega
     clear n f;go_wp2;go_roundw;·exact ⟨b+1,by omega,rfl,by go_num,h⟩
     simp [intOf];omega
    go_wp2;go_roundw;·exact ⟨k+1,by omega,rfl,by go_num,Qa f⟩
    simp [intOf];omega
  have E:k=M.length:=by omega
  clear E;go_wp2;go_loopw [3,6,7,8] (λs i _ _ wr=>∃ k:Nat,k<=N.length/\s=.bool true/\i=Xi k/\Hid (Xb w wr)) (λ_ i _ _ _=>N.length-(intOf i).toNat);·exact ⟨0,X3,rfl,rfl,K⟩
  case round =>
   obtain ⟨k,a3,rfl,rfl,X⟩:=hrel;obtain ⟨g,rfl⟩:∃ g,g=wr:=⟨_,rfl⟩;have a4:=(Xh X.out o (x+1) (by show o<_;exact A)).trans ax;by_cases C:k<N.length
   ·obtain ⟨q,rfl,t,a5,m,a6,z,a7,y⟩:=aL.out.get (by omega) C;have G:=(Xh X.out q k t).trans z;have B:=Qa y;have a8:(0:Int)<=(k:Int):=by omega
    have a9:(k:Int)<(N.length:Int):=by omega
    have J:=Qa X.out.size;clear y z;have aJ:Hid (∀ w,Xl 20 #[Xi ((k:Int) / 4)] w λe w'=>e=.returned (.string (QaF k))/\w=w'):=Qa λw=>by
     have:=Qk6 (k / 4) w (by omega);have e:(((k / 4:Nat):Int))=(k:Int) / 4:=by omega
     rw [e] at this;exact this.mono λ_ _ aI=>⟨aI.1,aI.2.symm⟩
    go_wp2_with (first|(go_at_call 20;refine (Qb aJ _).mono ?_;rintro e w1 ⟨rfl,rfl⟩));generalize p:g.alloc (.cells #[.string (QaF k),Xo] 72)=I;have F:=Xt p;have u:g.heap.size<I.heap.size:=by rw [<- p];simp
    have V:=Xz p 0 (.string (QaF k)) rfl;have W:=Xz p 1 Xo rfl;have v:=Qa (X.out.trans (F.mono J.out));clear p F;go_loopw [3,8] (λs j H=>∃ b:Nat,b<=m/\s=.bool true/\j=Xi b/\Hid (Xb I H)) (λ_ j _=>m-(intOf j).toNat);·exact ⟨0,X3,rfl,rfl,Qa X4⟩
    case round =>
     obtain ⟨b,a2,rfl,rfl,h⟩:=hrel;have f:=v.out.trans (h.out.mono v.out.size);have aa:=(Xh f o (x+1) (by show o<_;exact A)).trans ax;have ab:=(Xh h.out q k (by show q<_;have:=v.out.size;omega)).trans ((Xh v.out q k t).trans ((Xh X.out q k t).symm.trans G));by_cases D:b<m
     ·obtain ⟨d,rfl,r,n⟩:=B.out b D;have ac:Xc wr d (b*2) (.string (QaF k)):=(Xh f d _ r).trans (n 0 (by omega));have af:Xc wr d (b*2+1) Xo:=(Xh f d _ r).trans (n 1 (by omega));have ap:=(Xh h.out g.heap.size 0 u).trans V;have aq:=(Xh h.out g.heap.size 1 u).trans W;have ad:(0:Int)<=(b:Int):=by omega
      have ae:(b:Int)<(m:Int):=by omega
      clear n f;go_wp2;go_big_quiet (fail);go_wp2;go_roundw;·exact ⟨b+1,by omega,rfl,by go_num,Qa (Qv h.out _)⟩
      simp [intOf];omega
     go_wp2;go_roundw;·exact ⟨k+1,by omega,rfl,by go_num,Qa f⟩
     simp [intOf];omega
   have E:k=N.length:=by omega
   clear E;go_wp2;go_loopw [3,9,10,11] (λs i _ _ wr=>∃ k:Nat,k<=O.length/\s=.bool true/\i=Xi k/\Hid (Xb w wr)) (λ_ i _ _ _=>O.length-(intOf i).toNat);·exact ⟨0,X3,rfl,rfl,X⟩
   case round =>
    obtain ⟨k,a3,rfl,rfl,L⟩:=hrel;obtain ⟨g,rfl⟩:∃ g,g=wr:=⟨_,rfl⟩;have a4:=(Xh L.out o (x+2) (by show o<_;exact A)).trans az;by_cases C:k<O.length
    ·obtain ⟨q,rfl,t,a5,m,a6,z,a7,y⟩:=aM.out.get (by omega) C;have G:=(Xh L.out q k t).trans z;have B:=Qa y;have a8:(0:Int)<=(k:Int):=by omega
     have a9:(k:Int)<(O.length:Int):=by omega
     have J:=Qa L.out.size;clear y z;go_wp2;go_loopw [3,10,11] (λs j _ H=>∃ b:Nat,b<=m/\s=.bool true/\j=Xi b/\Hid (Xb g H)) (λ_ j _ _=>m-(intOf j).toNat);·exact ⟨0,X3,rfl,rfl,Qa X4⟩
     case round =>
      obtain ⟨b,a2,rfl,rfl,h⟩:=hrel;have f:=L.out.trans (h.out.mono L.out.size);have aa:=(Xh f o (x+2) (by show o<_;exact A)).trans az;have ab:=(Xh h.out q k (by show q<_;have:=L.out.size;omega)).trans G;by_cases D:b<m
      ·obtain ⟨d,rfl,r,n⟩:=B.out b D;have ac:Xc wr d (b*5) (Xi 0):=(Xh f d _ r).trans (n 0 (by omega));have af:Xc wr d (b*5+1) Xo:=(Xh f d _ r).trans (n 1 (by omega));have aG:Xc wr d (b*5+2) (Xi (-1000-(k:Int) / 4)):=(Xh f d _ r).trans (n 2 (by omega));have aH:Xc wr d (b*5+3) Xv:=(Xh f d _ r).trans (n 3 (by omega));have aP:Xc wr d (b*5+4) Xo:=(Xh f d _ r).trans (n 4 (by omega));have ad:(0:Int)<=(b:Int):=by omega
       have ae:(b:Int)<(m:Int):=by omega
       clear n f;go_wp2;go_roundw;·exact ⟨b+1,by omega,rfl,by go_num,Qa (h.out.alloc h.out.size _)⟩
       simp [intOf];omega
      go_wp2;go_roundw;·exact ⟨k+1,by omega,rfl,by go_num,Qa f⟩
      simp [intOf];omega
    have E:k=O.length:=by omega
    clear E;go_wp2;go_loopw [3,12,13,14] (λs i _ _ wr=>∃ k:Nat,k<=R.length/\s=.bool true/\i=Xi k/\Hid (Xb w wr)) (λ_ i _ _ _=>R.length-(intOf i).toNat);·exact ⟨0,X3,rfl,rfl,L⟩
    case round =>
     obtain ⟨k,a3,rfl,rfl,Y⟩:=hrel;obtain ⟨g,rfl⟩:∃ g,g=wr:=⟨_,rfl⟩;have a4:=(Xh Y.out o (x+3) (by show o<_;exact A)).trans aB;by_cases C:k<R.length
     ·obtain ⟨q,rfl,t,a5,m,a6,z,a7,y⟩:=aN.out.get (by omega) C;have G:=(Xh Y.out q k t).trans z;have B:=Qa y;have a8:(0:Int)<=(k:Int):=by omega
      have a9:(k:Int)<(R.length:Int):=by omega
      have J:=Qa Y.out.size;clear y z;go_wp2_with fail;generalize p:g.alloc (.cells #[Xi (-1000-(k:Int) / 4),Xi 0,Xi 0,Xi 0,Xi 0,Xo,Xo,Xo] 29)=I;have F:=Xt p;have u:g.heap.size<I.heap.size:=by rw [<- p];simp
      have V:=Xz p 0 (Xi (-1000-(k:Int) / 4)) rfl;have W:=Xz p 1 (Xi 0) rfl;have ar:=Xz p 2 (Xi 0) rfl;have au:=Xz p 3 (Xi 0) rfl;have aQ:=Xz p 4 (Xi 0) rfl;have aR:=Xz p 5 Xo rfl;have aS:=Xz p 6 Xo rfl;have aT:=Xz p 7 Xo rfl;have v:=Qa (Y.out.trans (F.mono J.out));clear p F;go_loopw [3,14] (λs j H=>∃ b:Nat,b<=m/\s=.bool true/\j=Xi b/\Hid (Xb I H)) (λ_ j _=>m-(intOf j).toNat);·exact ⟨0,X3,rfl,rfl,Qa X4⟩
      case round =>
       obtain ⟨b,a2,rfl,rfl,h⟩:=hrel;have f:=v.out.trans (h.out.mono v.out.size);have aa:=(Xh f o (x+3) (by show o<_;exact A)).trans aB;have ab:=(Xh h.out q k (by show q<_;have:=v.out.size;omega)).trans ((Xh v.out q k t).trans ((Xh Y.out q k t).symm.trans G));by_cases D:b<m
       ·obtain ⟨d,rfl,r,n⟩:=B.out b D;have ac:Xc wr d (b*8) (Xi (-1000-(k:Int) / 4)):=(Xh f d _ r).trans (n 0 (by omega));have af:Xc wr d (b*8+1) (Xi 0):=(Xh f d _ r).trans (n 1 (by omega));have aG:Xc wr d (b*8+2) (Xi 0):=(Xh f d _ r).trans (n 2 (by omega));have aH:Xc wr d (b*8+3) (Xi 0):=(Xh f d _ r).trans (n 3 (by omega));have aP:Xc wr d (b*8+4) (Xi 0):=(Xh f d _ r).trans (n 4 (by omega));have bg:Xc wr d (b*8+5) Xo:=(Xh f d _ r).trans (n 5 (by omega));have bh:Xc wr d (b*8+6) Xo:=(Xh f d _ r).trans (n 6 (by omega));have bi:Xc wr d (b*8+7) Xo:=(Xh f d _ r).trans (n 7 (by omega));have ap:=(Xh h.out g.heap.size 0 u).trans V;have aq:=(Xh h.out g.heap.size 1 u).trans W;have aU:=(Xh h.out g.heap.size 2 u).trans ar;have aV:=(Xh h.out g.heap.size 3 u).trans au;have bj:=(Xh h.out g.heap.size 4 u).trans aQ;have bk:=(Xh h.out g.heap.size 5 u).trans aR;have bl:=(Xh h.out g.heap.size 6 u).trans aS;have bm:=(Xh h.out g.heap.size 7 u).trans aT;have ad:(0:Int)<=(b:Int):=by omega
        have ae:(b:Int)<(m:Int):=by omega
        clear n f;go_wp2;go_big_quiet (fail);go_wp2;go_roundw;·exact ⟨b+1,by omega,rfl,by go_num,Qa (Qv h.out _)⟩
        simp [intOf];omega
       go_wp2;go_roundw;·exact ⟨k+1,by omega,rfl,by go_num,Qa f⟩
       simp [intOf];omega
     have E:k=R.length:=by omega
     clear E;go_wp2;go_loopw [3,15,16,17] (λs i _ _ wr=>∃ k:Nat,k<=T.length/\s=.bool true/\i=Xi k/\Hid (Xb w wr)) (λ_ i _ _ _=>T.length-(intOf i).toNat);·exact ⟨0,X3,rfl,rfl,Y⟩
     case round =>
      obtain ⟨k,a3,rfl,rfl,a0⟩:=hrel;obtain ⟨g,rfl⟩:∃ g,g=wr:=⟨_,rfl⟩;have a4:=(Xh a0.out o (x+4) (by show o<_;exact A)).trans aD;by_cases C:k<T.length
      ·obtain ⟨q,rfl,t,a5,m,a6,z,a7,y⟩:=aO.out.get (by omega) C;have G:=(Xh a0.out q k t).trans z;have B:=Qa y;have a8:(0:Int)<=(k:Int):=by omega
       have a9:(k:Int)<(T.length:Int):=by omega
       have J:=Qa a0.out.size;clear y z;go_wp2_with fail;generalize p:g.alloc (.cells #[Xi 0,Xi (-1000-(k:Int) / 4),Xi 0,Xi 0] 74)=I;have F:=Xt p;have u:g.heap.size<I.heap.size:=by rw [<- p];simp
       have V:=Xz p 0 (Xi 0) rfl;have W:=Xz p 1 (Xi (-1000-(k:Int) / 4)) rfl;have ar:=Xz p 2 (Xi 0) rfl;have au:=Xz p 3 (Xi 0) rfl;have v:=Qa (a0.out.trans (F.mono J.out));clear p F;go_loopw [3,17] (λs j H=>∃ b:Nat,b<=m/\s=.bool true/\j=Xi b/\Hid (Xb I H)) (λ_ j _=>m-(intOf j).toNat);·exact ⟨0,X3,rfl,rfl,Qa X4⟩
       case round =>
        obtain ⟨b,a2,rfl,rfl,h⟩:=hrel;have f:=v.out.trans (h.out.mono v.out.size);have aa:=(Xh f o (x+4) (by show o<_;exact A)).trans aD;have ab:=(Xh h.out q k (by show q<_;have:=v.out.size;omega)).trans ((Xh v.out q k t).trans ((Xh a0.out q k t).symm.trans G));by_cases D:b<m
        ·obtain ⟨d,rfl,r,n⟩:=B.out b D;have ac:Xc wr d (b*4) (Xi 0):=(Xh f d _ r).trans (n 0 (by omega));have af:Xc wr d (b*4+1) (Xi (-1000-(k:Int) / 4)):=(Xh f d _ r).trans (n 1 (by omega));have aG:Xc wr d (b*4+2) (Xi 0):=(Xh f d _ r).trans (n 2 (by omega));have aH:Xc wr d (b*4+3) (Xi 0):=(Xh f d _ r).trans (n 3 (by omega));have ap:=(Xh h.out g.heap.size 0 u).trans V;have aq:=(Xh h.out g.heap.size 1 u).trans W;have aU:=(Xh h.out g.heap.size 2 u).trans ar;have aV:=(Xh h.out g.heap.size 3 u).trans au;have ad:(0:Int)<=(b:Int):=by omega
         have ae:(b:Int)<(m:Int):=by omega
         clear n f;go_wp2;go_big_quiet (fail);go_wp2;go_roundw;·exact ⟨b+1,by omega,rfl,by go_num,Qa (Qv h.out _)⟩
         simp [intOf];omega
        go_wp2;go_roundw;·exact ⟨k+1,by omega,rfl,by go_num,Qa f⟩
        simp [intOf];omega
      have E:k=T.length:=by omega
      clear E;go_wp2;go_loopw [3,18,19,20] (λs i _ _ wr=>∃ k:Nat,k<=U.length/\s=.bool true/\i=Xi k/\Hid (Xb w wr)) (λ_ i _ _ _=>U.length-(intOf i).toNat);·exact ⟨0,X3,rfl,rfl,a0⟩
      case round =>
       obtain ⟨k,a3,rfl,rfl,a1⟩:=hrel;obtain ⟨g,rfl⟩:∃ g,g=wr:=⟨_,rfl⟩;have a4:=(Xh a1.out o (x+5) (by show o<_;exact A)).trans aF;by_cases C:k<U.length
       ·obtain ⟨q,rfl,t,a5,m,a6,z,a7,y⟩:=B.out.get (by omega) C;have G:=(Xh a1.out q k t).trans z;have B:=Qa y;have a8:(0:Int)<=(k:Int):=by omega
        have a9:(k:Int)<(U.length:Int):=by omega
        have J:=Qa a1.out.size;clear y z;go_wp2_with fail;generalize p:g.alloc (.cells #[Xi (-1000-(k:Int) / 4),Xi 0] 77)=I;have F:=Xt p;have u:g.heap.size<I.heap.size:=by rw [<- p];simp
        have V:=Xz p 0 (Xi (-1000-(k:Int) / 4)) rfl;have W:=Xz p 1 (Xi 0) rfl;have v:=Qa (a1.out.trans (F.mono J.out));clear p F;go_loopw [3,20] (λs j H=>∃ b:Nat,b<=m/\s=.bool true/\j=Xi b/\Hid (Xb I H)) (λ_ j _=>m-(intOf j).toNat);·exact ⟨0,X3,rfl,rfl,Qa X4⟩
        case round =>
         obtain ⟨b,a2,rfl,rfl,h⟩:=hrel;have f:=v.out.trans (h.out.mono v.out.size);have aa:=(Xh f o (x+5) (by show o<_;exact A)).trans aF;have ab:=(Xh h.out q k (by show q<_;have:=v.out.size;omega)).trans ((Xh v.out q k t).trans ((Xh a1.out q k t).symm.trans G));by_cases D:b<m
         ·obtain ⟨d,rfl,r,n⟩:=B.out b D;have ac:Xc wr d (b*2) (Xi (-1000-(k:Int) / 4)):=(Xh f d _ r).trans (n 0 (by omega));have af:Xc wr d (b*2+1) (Xi 0):=(Xh f d _ r).trans (n 1 (by omega));have ap:=(Xh h.out g.heap.size 0 u).trans V;have aq:=(Xh h.out g.heap.size 1 u).trans W;have ad:(0:Int)<=(b:Int):=by omega
          have ae:(b:Int)<(m:Int):=by omega
          clear n f;go_wp2;go_big_quiet (fail);go_wp2;go_roundw;·exact ⟨b+1,by omega,rfl,by go_num,Qa (Qv h.out _)⟩
          simp [intOf];omega
         go_wp2;go_roundw;·exact ⟨k+1,by omega,rfl,by go_num,Qa f⟩
         simp [intOf];omega
       have E:k=U.length:=by omega
       clear E;go_wp2;go_ret;exact ⟨rfl,a1.out⟩
end Go.Proofs.YtobgcaemnpkbmaaGreat
