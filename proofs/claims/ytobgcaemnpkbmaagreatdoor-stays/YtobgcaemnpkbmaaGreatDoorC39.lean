import Derived.Test.YtobgcaemnpkbmaaGreatDoorC38
namespace Go.Proofs.YtobgcaemnpkbmaaGreatDoor
set_option maxRecDepth 100000
set_option maxHeartbeats 8000000
open Go.RowKit List Go.Conc
theorem QB.chan {a d f:Qu} {w w1 w2 w':World} {u:Nat} (h:a u=some 0) (t:Qx (λx=>x=u) w w1) (c:QB a d w1 w2) (g:QB (Qcf d w.heap.size) f w2 w'):QB a f w w':=by
 have j:=t.size;have k:=c.far.size;have i:Qx (λb=>(a b).isSome=true) w w2:=(t.mono λb _ e=>by rw [e,h];rfl).trans (c.far.mono λb _ e=>.inl e);refine ⟨i.trans (g.far.mono λb _ e=>?_),λb hb=>(g.old b (by omega)).trans ?_⟩
 ·unfold Qcf at e;by_cases l:b<w.heap.size
  ·rw [if_neg (by omega),c.old b (by omega)] at e;exact .inl e
  exact .inr (by omega)
 unfold Qcf;rw [if_neg (by omega)];exact c.old b (by omega)
theorem Qjo {g:Qu} {w:World} {u C s r:Nat} {S:Us} (h:QA g w u S) (p:S.T.length<=10) (f:g C=some 200) (q:w.heap[C]?=some (.chan 48 #[] false s r false)) (t:S.lk.length<=48) : CallsD Tryz.prog 76 #[.pointer (some ⟨u,1,none⟩),.chan (some C)] .returning w λe m w'=>m=.returning/\e=.returned (.tuple #[])/\∃ d i,QB g d w w'/\QA d w' u { S with lv:=i }:=by
 obtain ⟨ao,c,l⟩:=Qz h.rl.row;have n:=h.c3;rw [l] at n;have b:=h.rl;rw [l] at b;have x:u≠C:=λe=>by rw [<- e,h.cs.role] at f;have:=Option.some.inj f;omega
 refine (QlC .returning u 1 C s r [] S.lk ao S.lk.length c w q (by simp) t n (h.cs.froz _) rfl (Qmj b.row) (λa k=>⟨λe=>?_,(b.row.lt a.block (by rw [k];rfl)).2,λj v y=>Qgl b.row k y⟩) x h.lt).mono ?_
 ·have:=b.role a.block (by rw [k];rfl);rw [e,f] at this;have:=Option.some.inj this;omega
 rintro e m w' ⟨rfl,rfl,i,w2,rfl,o,z⟩;rw [length_nil,Nat.zero_add,nil_append] at o;obtain ⟨d,B,A⟩:=h.back p f z o;exact ⟨rfl,rfl,d,i,B,A⟩
theorem Qr3 {a:Qu} {w:World} {u:Nat} {S:Us} (h:QA a w u S) (i:S.T.length<=10) (o:ZX S.tn S.lk=0) (j:S.lk.length<=48) (m:0<=S.tn/\S.tn<=1000000) (p:S.bt=[]) : Calls Tryz.prog 43 #[.pointer (some ⟨u,0,none⟩)] w λe w'=>e=.returned (.int .i64 7)/\∃ c d,QB a c w w'/\QA c w' u { S with lv:=d }:=by
 refine Qi4 u w.heap.size 0 0 7 w (λw1=>w1.heap[w.heap.size]?=some (.chan 48 #[] false 0 0 false)/\a w.heap.size=none/\QA a w1 u S/\Qx (λx=>x=u) w w1) (λw1=>w1.heap[w.heap.size]?=some (.chan 48 #[] false 0 0 false)/\a w.heap.size=none/\QA a w1 u S/\Qx (λx=>x=u) w w1) _ (Qa (Qkj h i o j m)) (Qa λw1 b=>b.1) (Qa λw1 b=>?_) (Qa ?_)
 ·obtain ⟨q,r,n⟩:=Qz b.2.2.1.rb.row;have k:=b.2.2.1.c4;rw [n,p] at k;exact (QoQ u w1 q r k).mono λe w2 ⟨f,g⟩=>⟨f,by rw [g];exact b⟩
 rintro w2 ⟨l,s,v,t⟩;have A:=h.gl.two;refine (Qjo (v.chan s (QN l) (by omega) (by omega)) i (by unfold Qcf;rw [if_pos rfl]) l j).mono ?_;rintro e B C ⟨f,g,c,d,z,y⟩;exact ⟨f,g,c,d,QB.chan h.cs.role t (QB.below (Below.refl _ _)) z,y⟩
theorem Qpy {b:Qu} {w:World} {u:Nat} {S:Us} (h:QA b w u S) (k:S.T.length<=10) (y:ZX S.tn S.lk=0) (o:S.lk.length<=48) (r:0<=S.tn/\S.tn<=1000000) {q:Int} (z:QY q (Qh S.C)) (A:q+S.bt.length<1000000) (hb:∀ x,x ∈ S.bt->x.ok) (B:0<S.bt.length) (s:S.bt.length<=48) {E:Nat->Qd} (F:Qbq S.D.R S.D.last (Qh S.C) S.cm.length E) (G:S.D.last<=1000000) (v:S.cm.length<999999) : Calls Tryz.prog 43 #[.pointer (some ⟨u,0,none⟩)] w λe w'=>e=.returned (.int .i64 0)/\∃ f S' i,QdP S S'/\QB b f w w'/\QA f w' u { S' with lv:=i }:=by
 refine Qi4 u w.heap.size 0 0 0 w (λw1=>w1.heap[w.heap.size]?=some (.chan 48 #[] false 0 0 false)/\b w.heap.size=none/\QA b w1 u S/\Qx (λx=>x=u) w w1) (λw2=>∃ w1 a S',w2.heap[w.heap.size]?=some (.chan 48 #[] false 0 0 false)/\a w.heap.size=none/\Qx (λx=>x=u) w w1/\QB b a w1 w2/\QA a w2 u S'/\QdP S S') _ (Qa (Qkj h k y o r)) (Qa λw1 l=>l.1) (Qa ?_) (Qa ?_)
 ·rintro w1 ⟨c,j,l,t⟩;refine (QoD l k z A hb B s F G v).mono ?_;rintro e w2 ⟨m,a,S',d,n,g⟩;have p:=QN c;exact ⟨m,w1,a,S',(d.far.block _ p (by rw [j];simp)).trans c,(d.old _ p).trans j,t,d,n,g⟩
 rintro w2 ⟨w1,a,S',c,j,t,d,n,g⟩;obtain ⟨K,M,np,i,L,e,_⟩:=g.ex;have N:=h.gl.two;refine (Qjo (n.chan j (QN c) (by omega) (by omega)) (by rw [e];exact k) (by unfold Qcf;rw [if_pos rfl]) c (by rw [e];exact o)).mono ?_;rintro e O P ⟨m,H,f,i,I,J⟩;exact ⟨m,H,f,S',i,g,QB.chan h.cs.role t d I,J⟩
structure QlH (u ch s r:Nat) (x:Qm) (L:List Qm) (bv:Value) (bn:Nat) (xs:List Value) (v':Value) (w1 w5:World):Prop where
 cell:∀ j,j≠2->j≠4->w5.cell? ⟨u,j,none⟩=w1.cell? ⟨u,j,none⟩
 c2:w5.cell? ⟨u,2,none⟩=some (.int .i64 x.t)
 c4:w5.cell? ⟨u,4,none⟩=some v'
 froz:∀ j,w5.frozen? ⟨u,j,none⟩=w1.frozen? ⟨u,j,none⟩
 row:w5.ownsRow 0 167 8 v' (bn+1) (xs++x.cells)
 blk:∀ b,b<w1.heap.size->b≠u->b≠ch->bv.ownBlock≠some b->w5.heap[b]?=w1.heap[b]?
 chan:w5.heap[ch]?=some (.chan 48 (L.map Qm.val).toArray false s (r+1) false)
 at':v'.ownBlock=bv.ownBlock \/ ∃ b,v'.ownBlock=some b/\w1.heap.size<=b
 size:w1.heap.size<=w5.heap.size
 os:w5.os=w1.os
 tape:w5.tape=w1.tape
 output:w5.output=w1.output
theorem Qns {u a s r:Nat} {x:Qm} {L:List Qm} {m:Option Addr} {k n:Nat} {xs:List Value} {w1 D:World} (h:Qlq u a s r x L m k n xs w1 D) (ac:u<w1.heap.size) (S:a<w1.heap.size) (v:u≠a) (z:(Value.slice m k n).ownBlock≠some u) (K:(Value.slice m k n).ownBlock≠some a) {T E:Value} (U:w1.cell? ⟨u,2,none⟩=some T) (V:w1.cell? ⟨u,4,none⟩=some E):∃ o,QlH u a s r x L (.slice m k n) k xs o w1 D:=by
 obtain ⟨l,o,F,G,g,W,rfl⟩:=h;have ad:(w1.setChan a 48 (L.map Qm.val).toArray false s (r+1) false).heap.size=w1.heap.size:=by simp [World.setChan]
 have p:(w1.setChan a 48 (L.map Qm.val).toArray false s (r+1) false).heap[u]?=w1.heap[u]?:=Qed w1 a 48 _ false s (r+1) false v;have I:(w1.setChan a 48 (L.map Qm.val).toArray false s (r+1) false).heap[a]?=some (.chan 48 (L.map Qm.val).toArray false s (r+1) false):=heap_setChan _ _ _ _ _ _ _ _ S;have M:∀ b,b≠a->(w1.setChan a 48 (L.map Qm.val).toArray false s (r+1) false).heap[b]?=w1.heap[b]?:=λb hb=>Qed w1 a 48 _ false s (r+1) false hb;have X:(w1.setChan a 48 (L.map Qm.val).toArray false s (r+1) false).os=w1.os:=rfl;have Y:(w1.setChan a 48 (L.map Qm.val).toArray false s (r+1) false).tape=w1.tape:=rfl;have a0:(w1.setChan a 48 (L.map Qm.val).toArray false s (r+1) false).output=w1.output:=rfl;generalize w1.setChan a 48 (L.map Qm.val).toArray false s (r+1) false=c at *;have H:(c.setCell ⟨u,2,none⟩ (.int .i64 x.t)).heap.size=c.heap.size:=by simp [World.setCell]
 have A:∀ b,b≠u->(c.setCell ⟨u,2,none⟩ (.int .i64 x.t)).heap[b]?=c.heap[b]?:=λb hb=>Below.heap_setCell _ _ _ _ hb;have N:(c.setCell ⟨u,2,none⟩ (.int .i64 x.t)).cell? ⟨u,2,none⟩=some (.int .i64 x.t):=World.cell?_setCell_same _ _ _ ((World.cell?_of_block p).trans U);have B:∀ j,j≠2->(c.setCell ⟨u,2,none⟩ (.int .i64 x.t)).cell? ⟨u,j,none⟩=c.cell? ⟨u,j,none⟩:=λj a1=>Z8 _ _ _ _ _ a1;have O:∀ j,(c.setCell ⟨u,2,none⟩ (.int .i64 x.t)).frozen? ⟨u,j,none⟩=c.frozen? ⟨u,j,none⟩:=λj=>World.frozen?_setCell ..;have a2:(c.setCell ⟨u,2,none⟩ (.int .i64 x.t)).os=c.os:=rfl;have a3:(c.setCell ⟨u,2,none⟩ (.int .i64 x.t)).tape=c.tape:=rfl;have a4:(c.setCell ⟨u,2,none⟩ (.int .i64 x.t)).output=c.output:=rfl;generalize c.setCell ⟨u,2,none⟩ (.int .i64 x.t)=i at *;have f:Below i.heap.size i ((i.alloc F).alloc G):=((Below.refl _ _).alloc (Nat.le_refl _) _).alloc (by simp) _;generalize (i.alloc F).alloc G=a5 at *;have y:∀ b,b<i.heap.size->(Value.slice m k n).ownBlock≠some b->l.heap[b]?=i.heap[b]?:=λb hb a6=>(g.by.block b (Nat.lt_of_lt_of_le hb f.size) (λe=>a6 e.symm)).trans (f.block b hb);have q:l.heap[u]?=i.heap[u]?:=y u (by omega) z;have P:∀ b,o.ownBlock=some b->b≠u:=λb e H=>by
  rcases g.at with d|d
  ·exact z (by rw [<- H,<- e,d])
  rw [e] at d;have:=Option.some.inj d;have:=f.size;omega
 have aa:a5.heap.size<=l.heap.size:=g.size;have ab:=f.size;refine ⟨o,λj a7 a8=>?_,?_,?_,λj=>?_,QT W λb e=>Below.heap_setCell _ _ _ _ (P b e),λb hb C J R=>?_,?_,?_,?_,?_,?_,?_⟩
 ·rw [Z8 _ _ _ _ _ a8,World.cell?_of_block q,B j a7];exact World.cell?_of_block p
 ·rw [Z8 _ _ _ _ _ (by omega),World.cell?_of_block q];exact N
 ·have a9:l.cell? ⟨u,4,none⟩=some E:=by rw [World.cell?_of_block q,B 4 (by omega),World.cell?_of_block p];exact V
  exact World.cell?_setCell_same _ _ _ a9
 ·rw [World.frozen?_setCell,World.frozen?_of_block q,O j];exact World.frozen?_of_block p
 ·rw [Below.heap_setCell _ _ _ _ C,y b (by omega) R,A b C,M b J]
 ·rw [Below.heap_setCell _ _ _ _ (Ne.symm v),y a (by omega) K,A a (Ne.symm v)];exact I
 ·rcases g.at with d|d
  ·exact .inl d
  exact .inr ⟨_,d,by omega⟩
 ·have:(l.setCell ⟨u,4,none⟩ o).heap.size=l.heap.size:=by simp [World.setCell]
  omega
 ·exact (g.by.os.trans f.os).trans (a2.trans X)
 ·exact (g.by.tape.trans f.tape).trans (a3.trans Y)
 exact (g.by.output.trans f.output).trans (a4.trans a0)
theorem Qrr {B:Qu} {w:World} {u:Nat} {S:Us} (h:QA B w u S) (af:S.T.length<=10) (x:Qm) (o:List Qm) (K:S.lk=x::o) (aA:x.t=S.tn+1) (ag:S.lk.length<=48) (ah:0<=S.tn/\S.tn<=1000000) (ai:S.bt.length<=1000) : Calls Tryz.prog 43 #[.pointer (some ⟨u,0,none⟩)] w λe w'=>e=.returned (.int .i64 0)/\∃ a4 aj ak,QB B a4 w w'/\QA a4 w' u { S with lk:=o,lv:=aj,tn:=x.t,bt:=S.bt++[x],bv:=ak }:=by
 obtain ⟨ao,c,a5⟩:=Qz h.rl.row;obtain ⟨D,E,a6⟩:=Qz h.rb.row;have ab:=h.c3;rw [a5] at ab;have X:=h.c4;rw [a6] at X;have G:=h.rl;rw [a5] at G;have A:=h.rb;rw [a6] at A;have aN:S.lk.length=o.length+1:=by rw [K];rfl
 rcases G.row.2 with ⟨_,e⟩|⟨b,cap,aP,e,_,hb,al,ap,_⟩
 ·omega
 obtain ⟨rfl,_,rfl⟩:=Value.slice.inj e;have N:B b=some 2:=G.role b rfl;have O:b≠u:=λe=>by rw [e,h.cs.role] at N;have:=Option.some.inj N;omega
 have a7:=QN hb;obtain ⟨k,aB⟩:∃ k,ZX S.tn S.lk=k+1:=⟨ZX (S.tn+1) o,by rw [K,ZX,if_pos aA]⟩;have aQ:k+1<=S.lk.length:=by have:=QnD S.lk S.tn;omega
 have aR:k<=o.length:=by omega
 have P:(Value.slice D S.bt.length E).ownBlock≠some u:=λe=>by have:=A.role u e;rw [h.cs.role] at this;have:=Option.some.inj this;omega
 have R:(Value.slice D S.bt.length E).ownBlock≠some w.heap.size:=λe=>by have:=(A.row.lt _ e).2;omega
 have aq:(Value.slice D S.bt.length E).ownBlock≠some b:=λe=>by have:=A.role b e;rw [N] at this;have:=Option.some.inj this;omega
 have aS:=h.lt;have a3:S.lk.take (k+1)=x::o.take k:=by rw [K];rfl
 have ad:S.lk.drop (k+1)=o.drop k:=by rw [K];rfl
 refine (Qn6 u w.heap.size (k+1) 0 x (o.take k) S.tn D S.bt.length E (QH S.bt) w ai (λw1=>QbD w u 1 b S.lk.length c S.tn S.lk (k+1) w1) (λY=>∃ w1 p q n w2,QbD w u 1 b S.lk.length c S.tn S.lk (k+1) w1/\QlH u w.heap.size (k+1) 0 x (o.take k) (.slice D S.bt.length E) S.bt.length (QH S.bt) q w1 p/\Y=w2.setCell ⟨u,3,none⟩ n/\w2.ownsRow p.heap.size 167 8 n o.length (QH o)/\Qx (λd=>d=w.heap.size) p w2) (Qa ?_) (Qa ?_) (Qa ?_)).mono ?_
 ·refine (QjC u 1 b S.lk.length c S.tn S.lk w rfl (by omega) ag al (by unfold maxLen at ap;omega) ah h.c2 ab (h.cs.froz _) (λj d C=>?_) O a7 h.lt).mono ?_
  ·obtain ⟨I,rfl⟩:=List.getElem?_eq_some_iff.1 C;exact QhQ G.row rfl j I
  rintro e w1 ⟨rfl,g⟩;rw [aB] at g;exact ⟨rfl,g⟩
 ·intro w1 g;have H:=g.chan;rw [a3] at H;have a8:=g.far.size;refine ⟨H,g.c1,λj=>(g.froz j).trans (h.cs.froz j),(g.own 4 (by omega)).trans X,QT A.row λb e=>g.far.block b (A.row.lt b e).2 λl=>P (by rw [<- l];exact e),by omega,by omega,P,R⟩
 ·intro w1 p g ar;have H:=g.chan;rw [a3] at H;have au:=QN H;have a8:=g.far.size;obtain ⟨q,i⟩:=Qns ar (by omega) au (by omega) P R g.c1 ((g.own 4 (by omega)).trans X);obtain ⟨U,av,a0,aO⟩:=g.c2;have aC:p.cell? ⟨u,3,none⟩=some (.slice (some U) (S.lk.length-(k+1)) (c-(k+1))):=(i.cell 3 (by omega) (by omega)).trans a0;have aD:S.lk.length-(k+1)=(o.drop k).length:=by rw [length_drop];omega
  have aw:=i.size;have ax:p.heap[b]?=w1.heap[b]?:=i.blk b (by omega) O (by omega) aq;refine (QlC .returning u 1 w.heap.size (k+1) 1 (o.take k) (o.drop k) (some U) _ _ p i.chan (by rw [length_take];omega) (by rw [length_drop];omega) aC ((i.froz 3).trans ((g.froz 3).trans (h.cs.froz 3))) aD (λe=>by cases e) (λa aE=>?_) (by omega) (by omega)).mono ?_
  ·cases aE;refine ⟨by omega,by omega,λj v a1=>?_⟩;have I:j<(QH (o.drop k)).length:=(List.getElem?_eq_some_iff.1 a1).1;rw [Qmi,length_drop] at I;rw [av (by omega),ZS];have aF:(QH (o.drop k))[j]?=(QH S.lk)[(k+1)*8+j]?:=by rw [<- ad,<- Qi0,getElem?_drop]
   rw [aF] at a1;have ae:=G.row.cellAt ((k+1)*8+j) (by omega);have aG:p.cell? ⟨b,(k+1)*8+j,none⟩=w.cell? ⟨b,(k+1)*8+j,none⟩:=(World.cell?_of_block ax).trans (World.cell?_of_block (g.far.block b a7 O));rw [aG,ae];exact a1
  rintro e aU Y ⟨rfl,rfl,n,w2,rfl,J,s⟩;refine ⟨rfl,rfl,w1,p,q,n,w2,g,i,rfl,?_,s⟩;rw [take_append_drop,length_take,length_drop,show min k o.length+(o.length-k)=o.length by omega] at J;exact J
 rintro e Y ⟨rfl,w1,p,q,n,w2,g,i,rfl,J,s⟩;refine ⟨rfl,?_⟩;have a8:=g.far.size;have aw:=i.size;have aT:=s.size;have ay:(w2.setCell ⟨u,3,none⟩ n).heap.size=w2.heap.size:=by simp [World.setCell]
 have V:w2.heap[u]?=p.heap[u]?:=s.block u (by omega) (by omega);have a9:∀ d,q.ownBlock=some d->B d=some 3 \/ (w.heap.size<=d/\d<p.heap.size):=λd e=>by
  rcases i.at' with l|⟨z,l,aH⟩
  ·exact .inl (A.role d (l▸e))
  have:=(i.row.lt d e).2;rw [e] at l;have:=Option.some.inj l;exact .inr (by omega)
 have L:∀ d,n.ownBlock=some d->p.heap.size<=d/\d<w2.heap.size:=λd e=>J.lt d e;have aa:∀ d,q.ownBlock=some d->d≠u/\d≠w.heap.size:=λd e=>by
  rcases a9 d e with l|l
  ·refine ⟨λy=>?_,λy=>?_⟩
   ·rw [y,h.cs.role] at l;have:=Option.some.inj l;omega
   have:=h.cs.low d (by rw [l];rfl);omega
  refine ⟨by omega,λy=>?_⟩;rcases i.at' with M|⟨z,M,aH⟩
  ·exact R (by rw [<- y,<- e,M])
  rw [e] at M;have:=Option.some.inj M;have:=QN g.chan;omega
 have m:Mv B (λd=>if d<w.heap.size then B d else if n.ownBlock=some d then some 2 else if q.ownBlock=some d then some 3 else none) (λr=>r=0 \/ r=3) w (w2.setCell ⟨u,3,none⟩ n):=by
  refine ⟨⟨s.os.trans (i.os.trans g.far.os),s.tape.trans (i.tape.trans g.far.tape),s.output.trans (i.output.trans g.far.output),by omega,λd C ac=>?_⟩,λd C=>if_pos C,λd e=>?_⟩
  ·have W:d≠u:=λe=>ac ⟨0,by rw [e];exact h.cs.role,.inl rfl⟩;have az:(Value.slice D S.bt.length E).ownBlock≠some d:=λe=>ac ⟨3,A.role d e,.inr rfl⟩;rw [Below.heap_setCell _ _ _ _ W,s.block d (by omega) (by omega),i.blk d (by omega) W (by omega) az];exact g.far.block d C W
  rw [ay];by_cases C:d<w.heap.size
  ·omega
  simp only [if_neg C] at e;by_cases l:n.ownBlock=some d
  ·exact (L d l).2
  rw [if_neg l] at e;by_cases y:q.ownBlock=some d
  ·have:=(i.row.lt d y).2;omega
  rw [if_neg y] at e;cases e
 have a2:∀ j,j≠3->(w2.setCell ⟨u,3,none⟩ n).cell? ⟨u,j,none⟩=p.cell? ⟨u,j,none⟩:=λj I=>(Z8 _ _ _ _ _ I).trans (World.cell?_of_block V);have F:∀ j,j≠2->j≠3->j≠4->(w2.setCell ⟨u,3,none⟩ n).cell? ⟨u,j,none⟩=w.cell? ⟨u,j,none⟩:=λj aI aJ aK=>(a2 j aJ).trans ((i.cell j aI aK).trans (g.own j (by omega)));have f:∀ j,(w2.setCell ⟨u,3,none⟩ n).frozen? ⟨u,j,none⟩=w.frozen? ⟨u,j,none⟩:=λj=>(World.frozen?_setCell ..).trans ((World.frozen?_of_block V).trans ((i.froz j).trans (g.froz j)));have aL:(w2.setCell ⟨u,3,none⟩ n).cell? ⟨u,3,none⟩=some n:=by obtain ⟨U,_,a0,_⟩:=g.c2;exact World.cell?_setCell_same _ _ _ ((World.cell?_of_block V).trans ((i.cell 3 (by omega) (by omega)).trans a0))
 refine ⟨_,n,q,m.out,⟨(F _ (by omega) (by omega) (by omega)).trans h.c0,h.ta,(F _ (by omega) (by omega) (by omega)).trans h.c1,(a2 _ (by omega)).trans i.c2,aL,(a2 _ (by omega)).trans i.c4,(F _ (by omega) (by omega) (by omega)).trans h.c5,(F _ (by omega) (by omega) (by omega)).trans h.c6,(F _ (by omega) (by omega) (by omega)).trans h.c7,h.cs.mv m (by intro k _;omega) (λj aV aW=>F _ (by omega) (by omega) (by omega)) f,h.ts.mv m h.cs.low (by omega) (by intro r _ _;omega) af,⟨QT (Qbv J (Nat.zero_le _)) λd e=>Below.heap_setCell _ _ _ _ (λl=>by have l:d=u:=l;have:=L d e;omega),λd e=>?_⟩,⟨?_,λd e=>?_⟩,h.re.mv m h.cs.low (by omega),h.rc.mv m h.cs.low (by omega),h.dc.mv m h.cs.low (by omega),h.gl.mv m h.g0 h.g1,(m.old 0 h.gl.pos).trans h.g0,(m.old 1 h.gl.two).trans h.g1⟩⟩
 ·have:=L d e;show (if d<w.heap.size then B d else if n.ownBlock=some d then some 2 else if q.ownBlock=some d then some 3 else none)=_;rw [if_neg (by omega),if_pos e]
 ·have aM:=QT i.row λd e=>(Below.heap_setCell w2 ⟨u,3,none⟩ n d (aa d e).1).trans (s.block d (i.row.lt d e).2 (aa d e).2);show World.ownsRow _ 0 167 8 q (S.bt++[x]).length (QH (S.bt++[x]));rw [Qlf,length_append];exact aM
 show (if d<w.heap.size then B d else if n.ownBlock=some d then some 2 else if q.ownBlock=some d then some 3 else none)=_;rcases a9 d e with l|l
 ·rw [if_pos (h.cs.low d (by rw [l];rfl))];exact l
 rw [if_neg (by omega),if_neg (λy=>by have:=L d y;omega),if_pos e]
def Z6 (f:Tk->Nat) (T:List Tk):Nat:=(T.map f).sum
theorem Qb1 (f:Tk->Nat):∀ (T:List Tk) (i:Nat) (t b:Tk),T[i]?=some t->Z6 f (T.set i b)+f t=Z6 f T+f b
 | [],i,t,b,h=>by simp at h
 | a::T,0,t,b,h=>by
  have:a=t:=by simpa using h
  subst this;simp [Z6];omega
 | a::T,i+1,t,b,h=>by have:=Qb1 f T i t b (by simpa using h);simp only [Z6,set_cons_succ,map_cons,sum_cons] at this ⊢;omega
def Tk.hf (t:Tk):Nat:=if t.half.isSome then 1 else 0
def Tk.to (t:Tk):Nat:=t.acts.length-t.hf
structure TOk (gv tn:Int) (t:Tk):Prop where
 acts:∀ a,a ∈ t.acts->a.may=true/\Qg a.n
 sent:0<=t.sent/\t.sent<=gv
 half:∀ x,t.half=some x->x.ok/\t.acts[0]?=some x.a/\x.t=t.sent/\tn<x.t
structure Qc7 (n:Nat) (cm:List (Int × Int)) (e:Ev):Prop where
 tk:1<=e.tk/\e.tk<=n
 vs:0<=e.vs/\e.vs<=cm.length
 zero:e.vs=0->e.up=0
 pos:∀ k:Nat,e.vs=k+1->∀ c,cm[k]?=some c->c.1=e.up
structure Zt (S:Us):Prop where
 n4:S.T.length<=4
 task:∀ (i:Nat) t,S.T[i]?=some t->TOk S.gv S.tn t
 part:∀ (i j:Nat) t s x y,S.T[i]?=some t->S.T[j]?=some s->t.half=some x->s.half=some y->x.t=y.t->i=j
 ups:Ups S.lk
 lk:∀ x,x ∈ S.lk->x.ok/\S.tn<x.t/\x.t<=S.gv
 apart:∀ (i:Nat) t x y,S.T[i]?=some t->t.half=some x->y ∈ S.lk->y.t≠x.t
 all:∀ k:Int,S.tn<k->k<=S.gv->(∃ y,y ∈ S.lk/\y.t=k) \/ ∃ (i:Nat) (t:Tk) (x:Qm),S.T[i]?=some t/\t.half=some x/\x.t=k
 bt:∀ x,x ∈ S.bt->x.ok
 batch:(S.bt.length:Int)=S.tn-Zg S.cm
 up0:0<=Zg S.cm
 tngv:S.tn<=S.gv
 room:S.gv+Z6 Tk.to S.T<=48
 evs:S.ev.length+Z6 (λt=>t.acts.length) S.T<=48
 pok:QY (Zg S.cm) (Qh S.C)
 seen:∃ L,Qbq S.D.R S.D.last (Qh S.C) S.cm.length L
 last:S.D.last<=400*(S.cm.length+1)
 few:S.cm.length<=Zg S.cm
 rise:S.cm.Pairwise λa b=>a.1<b.1
 cms:∀ c,c ∈ S.cm->1<=c.1/\1<=c.2
 ev:∀ e,e ∈ S.ev->Qc7 S.T.length S.cm e
 evp:S.ev.Pairwise λa b=>a.vs<=b.vs
inductive J1 (S:Us):Int->Int->Us->Prop
 | took (x:Qm) (U:List Qm) (lv bv:Value):S.lk=x::U->x.t=S.tn+1->J1 S 0 0 { S with lk:=U,lv:=lv,tn:=x.t,bt:=S.bt++[x],bv:=bv }
 | com (S1:Us) (lv:Value):ZX S.tn S.lk=0->0<S.bt.length->QdP S S1->J1 S 0 0 { S1 with lv:=lv }
 | wait (lv:Value):ZX S.tn S.lk=0->S.bt=[]->J1 S 0 7 { S with lv:=lv }
 | done (i:Nat) (t:Tk):S.T[i]?=some t->t.acts=[]->J1 S (i+1) 8 S
 | hold (i:Nat) (t:Tk) (a:Ac):S.T[i]?=some t->t.acts[0]?=some a->a.kd=8->Zg S.cm<t.sent->J1 S (i+1) 7 S
 | tell (i:Nat) (t:Tk) (a:Ac) (ao:Addr) (v:Value):S.T[i]?=some t->t.acts[0]?=some a->(a.kd=8/\t.sent<=Zg S.cm \/ a.kd=9)->J1 S (i+1) 0 { S with T:=S.T.set i (t.next ao),ev:=S.ev++[⟨i+1,a.kd,S.cm.length,Zg S.cm⟩],ve:=v }
 | send1 (i:Nat) (t:Tk) (a:Ac) (hb:Nat):S.T[i]?=some t->t.half=none->t.acts[0]?=some a->(a.kd≠8/\a.kd≠9)->J1 S (i+1) 0 { S with gv:=S.gv+1,T:=S.T.set i { t with half:=some ⟨a,S.gv+1,Qbj (Qh S.C) a⟩,sent:=S.gv+1,hb:=hb } }
 | send2 (i:Nat) (t:Tk) (x:Qm) (p:Nat) (ao:Addr) (v:Value):S.T[i]?=some t->t.half=some x->p<=S.lk.length->(∀ j,(hj:j<S.lk.length)->j<p->S.lk[j].t<x.t)->(∀ j,(hj:j<S.lk.length)->p<=j->x.t<=S.lk[j].t)->J1 S (i+1) 0 { S with lk:=S.lk.take p++[x]++S.lk.drop p,lv:=v,T:=S.T.set i (Tk.next { t with half:=none } ao) }
theorem Qsy {a:Ac} (h:a.may=true) (b:a.kd≠8/\a.kd≠9):1<=a.nm/\a.nm<=20:=by unfold Ac.may at h;simp only [Bool.and_eq_true,Bool.or_eq_true,beq_iff_eq,decide_eq_true_eq] at h;omega
theorem Qk8:∀ (l:List Qm) (a b:Int),Ups l->a<=b->(∀ x,x ∈ l->a<x.t/\x.t<=b)->(l.length:Int)<=b-a| [],a,b,_,hab,_=>by simp;omega| x::l,a,b,h,hab,hl=>by obtain ⟨f,g⟩:=pairwise_cons.1 h;obtain ⟨j,i⟩:=hl x (mem_cons_self ..);have:=Qk8 l x.t b g i λd c=>⟨f d c,(hl d (mem_cons_of_mem _ c)).2⟩;simp only [length_cons];omega
theorem Zt.num {S:Us} (h:Zt S):0<=S.tn/\S.tn<=S.gv/\S.gv<=48/\S.lk.length<=48/\S.bt.length<=48/\S.ev.length<=48/\S.cm.length<=48:=by have b:=h.batch;have c:=h.up0;have d:=h.tngv;have f:=h.room;have g:=h.evs;have i:=h.few;have j:=Qk8 S.lk S.tn S.gv h.ups h.tngv λx a=>(h.lk x a).2;refine ⟨by omega,by omega,by omega,by omega,by omega,by omega,by omega⟩
theorem Qiy {s:Qu} {w:World} {u:Nat} {S:Us} (h:QA s w u S) (k:Zt S) (t:Int) (ak:0<=t/\t<=S.T.length) : Calls Tryz.prog 24 #[.pointer (some ⟨u,0,none⟩),.int .i64 t] w λe w'=>∃ x b S',e=.returned (.int .i64 x)/\QB s b w w'/\QA b w' u S'/\J1 S t x S':=by
 have af:=k.n4;have m:S.T.length<=10:=by omega
 obtain ⟨a5,al,ap,J,a6,aq,ar⟩:=k.num;rcases Int.lt_or_le 0 t with ae|au
 ·obtain ⟨i,a7⟩:∃ i:Nat,t=i+1:=⟨(t-1).toNat,by omega⟩;subst a7;have B:i<S.T.length:=by omega
  obtain ⟨c,q⟩:∃ t,S.T[i]?=some t:=⟨_,getElem?_eq_getElem B⟩;obtain ⟨y,av,aw,ag,ah,_,ai⟩:=h.task q;have D:=h.c0;rw [h.ta (by omega)] at D;have N:=k.task i c q;rcases Nat.eq_zero_or_pos c.acts.length with o|o
  ·rw [o] at y;refine (Qob u S.tg S.T.length S.tc i c.ao c.ac _ w D B rfl m y).mono ?_;rintro e w' ⟨rfl,hb⟩;exact ⟨8,s,S,rfl,QB.below hb,h.below m hb,.done i c q (length_eq_zero_iff.1 o)⟩
  obtain ⟨a,E⟩:∃ a,c.acts[0]?=some a:=⟨_,getElem?_eq_getElem o⟩;have a2:a ∈ c.acts:=mem_of_getElem? E;obtain ⟨g,p,a3,_,X⟩:=(h.ts.each i c q).acts 0 a E;rw [Nat.zero_mul,Nat.add_zero] at X;have F:=X 0 _ rfl;rw [Nat.add_zero] at F;rw [a3] at y;by_cases I:a.kd=8 \/ a.kd=9
  ·by_cases K:a.kd=8/\Zg S.cm<c.sent
   ·obtain ⟨I,K⟩:=K;refine (Qkg u S.tg S.T.length S.tc i g p c.acts.length c.ac _ a.kd 7 w (λw'=>Below w.heap.size w w') D B rfl m o y F (.inl I) (Qa λz n=>?_)).mono ?_
    ·rw [I];have O:=h.below m n;refine (QrT u S.tg (i*3) _ c.sent (Zg S.cm) z (O.task q).2.2.1 (O.task q).2.2.2.1 K (Qa λa8 a4=>Qkn O m (by omega) a8 a4)).mono ?_;rintro e w' ⟨rfl,hb⟩;exact ⟨rfl,n.trans (hb.mono n.size)⟩
    rintro e w' ⟨rfl,hb⟩;exact ⟨7,s,S,rfl,QB.below hb,h.below m hb,.hold i c a q E I K⟩
   have a0:a.kd=8/\c.sent<=Zg S.cm \/ a.kd=9:=by omega
   refine (Qkg u S.tg S.T.length S.tc i g p c.acts.length c.ac _ a.kd 0 w (λw'=>∃ b r d,QB s b w w'/\QA b w' u { S with T:=S.T.set i (c.next r),ev:=S.ev++[⟨i+1,a.kd,S.cm.length,Zg S.cm⟩],ve:=d }) D B rfl m o y F I (Qa λz n=>?_)).mono ?_
   ·refine (Qr0 (h.below m n) m (by omega) (by omega) q o _ a.kd a0).mono ?_;rintro e w' ⟨rfl,b,r,d,l,f⟩;exact ⟨rfl,b,r,d,(QB.below n).trans l,f⟩
   rintro e w' ⟨rfl,b,r,d,l,f⟩;exact ⟨0,b,_,rfl,l,f,.tell i c a r d q E a0⟩
  have L:a.kd≠8/\a.kd≠9:=by omega
  rcases hh:c.half with _|x
  ·refine (Qkt u S.tg S.T.length S.tc i g p c.acts.length c.ac _ a.kd w (λw'=>∃ b hb,QB s b w w'/\QA b w' u { S with gv:=S.gv+1,T:=S.T.set i { c with half:=some ⟨a,S.gv+1,Qbj (Qh S.C) a⟩,sent:=S.gv+1,hb:=hb } }) D B rfl m o y F L (Qa λz n=>?_)).mono ?_
   ·refine (Qpb (h.below m n) m q hh a E (Qsy (N.acts a a2).1 L) ⟨by omega,by omega⟩).mono ?_;rintro e w' ⟨rfl,b,hb,l,f⟩;exact ⟨rfl,b,hb,(QB.below n).trans l,f⟩
   rintro e w' ⟨rfl,b,hb,l,f⟩;exact ⟨0,b,_,rfl,l,f,.send1 i c a hb q hh E L⟩
  obtain ⟨ax,ay,az,aA⟩:=N.half x hh;refine (Qkt u S.tg S.T.length S.tc i g p c.acts.length c.ac _ a.kd w (λw'=>∃ b p r d,p<=S.lk.length/\(∀ j,(a9:j<S.lk.length)->j<p->S.lk[j].t<x.t)/\(∀ j,(a9:j<S.lk.length)->p<=j->x.t<=S.lk[j].t)/\QB s b w w'/\QA b w' u { S with lk:=S.lk.take p++[x]++S.lk.drop p,lv:=d,T:=S.T.set i (Tk.next { c with half:=none } r) }) D B rfl m o y F L (Qa λz n=>?_)).mono ?_
  ·have aB:=N.sent;refine (QtV (h.below m n) m q x hh o J k.ups ⟨by omega,by omega⟩ λad aa=>?_).mono ?_
   ·have:=(k.lk ad aa).2;exact ⟨by omega,by omega⟩
   rintro e w' ⟨rfl,b,p,r,d,P,R,U,l,f⟩;exact ⟨rfl,b,p,r,d,P,R,U,(QB.below n).trans l,f⟩
  rintro e w' ⟨rfl,b,p,r,d,P,R,U,l,f⟩;exact ⟨0,b,_,rfl,l,f,.send2 i c x p r d q hh P R U⟩
 have:t=0:=by omega
 subst this;have M:0<=S.tn/\S.tn<=1000000:=⟨a5,by omega⟩;by_cases v:ZX S.tn S.lk=0
 ·rcases Nat.eq_zero_or_pos S.bt.length with o|o
  ·have o:=length_eq_zero_iff.1 o;refine (Qhv u S.T.length S.tc S.tao 7 w (λw'=>∃ b d,QB s b w w'/\QA b w' u { S with lv:=d }) h.c0 (Qa λz n=>?_)).mono ?_
   ·refine (Qr3 (h.below m n) m v J M o).mono ?_;rintro e w' ⟨rfl,b,d,l,f⟩;exact ⟨rfl,b,d,(QB.below n).trans l,f⟩
   rintro e w' ⟨rfl,b,d,l,f⟩;exact ⟨7,b,_,rfl,l,f,.wait d v o⟩
  obtain ⟨aC,ab⟩:=k.seen;have V:=k.last;have aj:=k.batch;refine (Qhv u S.T.length S.tc S.tao 0 w (λw'=>∃ b S' d,QdP S S'/\QB s b w w'/\QA b w' u { S' with lv:=d }) h.c0 (Qa λz n=>?_)).mono ?_
  ·refine (Qpy (h.below m n) m v J M k.pok (by omega) k.bt o a6 ab (by omega) (by omega)).mono ?_;rintro e w' ⟨rfl,b,S',d,W,l,f⟩;exact ⟨rfl,b,S',d,W,(QB.below n).trans l,f⟩
  rintro e w' ⟨rfl,b,S',d,W,l,f⟩;exact ⟨0,b,_,rfl,l,f,.com S' d v o W⟩
 obtain ⟨x,A,Y,a1⟩:∃ x A,S.lk=x::A/\x.t=S.tn+1:=by
  cases V:S.lk with
  | nil=>rw [V] at v;exact absurd rfl v
  | cons x A =>
   refine ⟨x,A,rfl,?_⟩;rw [V] at v;unfold ZX at v;split at v
   ·assumption
   exact absurd rfl v
 refine (Qhv u S.T.length S.tc S.tao 0 w (λw'=>∃ b G H,QB s b w w'/\QA b w' u { S with lk:=A,lv:=G,tn:=x.t,bt:=S.bt++[x],bv:=H }) h.c0 (Qa λz n=>?_)).mono ?_
 ·refine (Qrr (h.below m n) m x A Y a1 J M (by omega)).mono ?_;rintro e w' ⟨rfl,b,G,H,l,f⟩;exact ⟨rfl,b,G,H,(QB.below n).trans l,f⟩
 rintro e w' ⟨rfl,b,G,H,l,f⟩;exact ⟨0,b,_,rfl,l,f,.took x A G H Y a1⟩
end Go.Proofs.YtobgcaemnpkbmaaGreatDoor
