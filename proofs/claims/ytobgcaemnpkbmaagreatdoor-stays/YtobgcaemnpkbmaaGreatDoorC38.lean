import Derived.Test.YtobgcaemnpkbmaaGreatDoorC37
namespace Go.Proofs.YtobgcaemnpkbmaaGreatDoor
set_option maxRecDepth 100000
set_option maxHeartbeats 8000000
open Go.RowKit List
theorem QA.same {c:Qu} {w w':World} {u:Nat} {S:Us} (h:QA c w u S) (f:S.T.length<=10) (d:Qx (λx=>x=u) w w') (a:∀ j,w'.cell? ⟨u,j,none⟩=w.cell? ⟨u,j,none⟩) (g:∀ j,w'.frozen? ⟨u,j,none⟩=w.frozen? ⟨u,j,none⟩):QA c w' u S:=by have m:Mv c c (λr=>r=0) w w':=⟨d.mono λb _ e=>⟨0,by rw [e];exact h.cs.role,rfl⟩,λ_ _=>rfl,λb e=>Nat.lt_of_lt_of_le (h.cs.low b e) d.size⟩;exact ⟨(a _).trans h.c0,h.ta,(a _).trans h.c1,(a _).trans h.c2,(a _).trans h.c3,(a _).trans h.c4,(a _).trans h.c5,(a _).trans h.c6,(a _).trans h.c7,h.cs.mv m (by intro k _;omega) (λj _ _=>a j) g,h.ts.mv m h.cs.low (by omega) (by intro r _ _;omega) f,h.rl.mv m h.cs.low (by omega),h.rb.mv m h.cs.low (by omega),h.re.mv m h.cs.low (by omega),h.rc.mv m h.cs.low (by omega),h.dc.mv m h.cs.low (by omega),h.gl.mv m h.g0 h.g1,h.g0,h.g1⟩
theorem QA.kap {l d:Qu} {w:World} {u:Nat} {S:Us} (h:QA l w u S) (c:∀ b r,l b=some r->d b=some r) (n:∀ b,(d b).isSome=true->b<w.heap.size) (q:d 0=none) (s:d 1=none):QA d w u S :=
 ⟨h.c0,h.ta,h.c1,h.c2,h.c3,h.c4,h.c5,h.c6,h.c7,⟨h.cs.set,h.cs.froz,h.cs.lt,c _ _ h.cs.role,h.cs.row,λk g o e=>c _ _ (h.cs.rrole k g o e),n⟩,
  ⟨λv=>c _ _ (h.ts.role v),h.ts.row,h.ts.froz,λi t f=>⟨λj a y=>by
   obtain ⟨g,p,z,A,B⟩:=(h.ts.each i t f).acts j a y
   exact ⟨g,p,z,c _ _ A,B⟩,(h.ts.each i t f).cap,(h.ts.each i t f).big,λx m=>⟨c _ _ ((h.ts.each i t f).half x m).1,((h.ts.each i t f).half x m).2⟩⟩⟩,
  ⟨h.rl.row,λb e=>c _ _ (h.rl.role b e)⟩,⟨h.rb.row,λb e=>c _ _ (h.rb.role b e)⟩,⟨h.re.row,λb e=>c _ _ (h.re.role b e)⟩,⟨h.rc.row,λb e=>c _ _ (h.rc.role b e)⟩,⟨h.dc.dom,λb e=>c _ _ (h.dc.role b e)⟩,h.gl,q,s⟩
def Qcf (a:Qu) (C:Nat):Qu:=λb=>if b=C then some 200 else a b
theorem QA.chan {c:Qu} {w:World} {u C:Nat} {S:Us} (h:QA c w u S) (d:c C=none) (f:C<w.heap.size) (g:C≠0) (i:C≠1):QA (Qcf c C) w u S:=by
 refine h.kap (λb r e=>?_) (λb e=>?_) ?_ ?_
 ·unfold Qcf;rw [if_neg (λa=>by rw [a,d] at e;cases e)];exact e
 ·unfold Qcf at e;by_cases a:b=C
  ·rw [a];exact f
  rw [if_neg a] at e;exact h.cs.low b e
 ·unfold Qcf;rw [if_neg (λe=>g e.symm)];exact h.g0
 unfold Qcf;rw [if_neg (λe=>i e.symm)];exact h.g1
theorem QA.back {d:Qu} {w w2:World} {u C:Nat} {S:Us} (h:QA d w u S) (t:S.T.length<=10) (l:d C=some 200) (n:Qx (λx=>x=C) w w2) {a:Value} (o:w2.ownsRow w.heap.size 167 8 a S.lk.length (QH S.lk)):∃ p,QB d p w (w2.setCell ⟨u,3,none⟩ a)/\QA p (w2.setCell ⟨u,3,none⟩ a) u { S with lv:=a }:=by
 have q:∀ b,a.ownBlock=some b->w.heap.size<=b:=λb e=>(o.lt b e).1;have v:(w2.setCell ⟨u,3,none⟩ a).heap.size=w2.heap.size:=by simp [World.setCell]
 have y:u≠C:=λe=>by rw [<- e,h.cs.role] at l;have:=Option.some.inj l;omega
 have i:w2.heap[u]?=w.heap[u]?:=n.block u h.lt y;have m:Mv d (λb=>if b<w.heap.size then d b else if a.ownBlock=some b then some 2 else none) (λr=>r=0 \/ r=200) w (w2.setCell ⟨u,3,none⟩ a):=by
  refine ⟨(n.mono λb _ e=>⟨200,by rw [e];exact l,.inr rfl⟩).set (.inl ⟨0,h.cs.role,.inl rfl⟩) a,λb hb=>if_pos hb,λb e=>?_⟩;rw [v];have:=n.size;by_cases hb:b<w.heap.size
  ·omega
  simp only [if_neg hb] at e;by_cases g:a.ownBlock=some b
  ·exact (o.lt b g).2
  rw [if_neg g] at e;cases e
 have c:∀ k,k≠3->(w2.setCell ⟨u,3,none⟩ a).cell? ⟨u,k,none⟩=w.cell? ⟨u,k,none⟩:=λk z=>(Z8 _ _ _ _ _ z).trans (World.cell?_of_block i);have f:∀ k,(w2.setCell ⟨u,3,none⟩ a).frozen? ⟨u,k,none⟩=w.frozen? ⟨u,k,none⟩:=λk=>(World.frozen?_setCell ..).trans (World.frozen?_of_block i);have s:(w2.setCell ⟨u,3,none⟩ a).cell? ⟨u,3,none⟩=some a:=World.cell?_setCell_same _ _ _ ((World.cell?_of_block i).trans h.c3);refine ⟨_,m.out,⟨(c _ (by omega)).trans h.c0,h.ta,(c _ (by omega)).trans h.c1,(c _ (by omega)).trans h.c2,s,(c _ (by omega)).trans h.c4,(c _ (by omega)).trans h.c5,(c _ (by omega)).trans h.c6,(c _ (by omega)).trans h.c7,h.cs.mv m (by intro k _;omega) (λj A B=>c _ (by omega)) f,h.ts.mv m h.cs.low (by omega) (by intro r _ _;omega) t,⟨QT (Qbv o (Nat.zero_le _)) λb e=>Below.heap_setCell _ _ _ _ (λg=>by have g:b=u:=g;have:=q b e;have:=h.lt;omega),λb e=>?_⟩,h.rb.mv m h.cs.low (by omega),h.re.mv m h.cs.low (by omega),h.rc.mv m h.cs.low (by omega),h.dc.mv m h.cs.low (by omega),h.gl.mv m h.g0 h.g1,(m.old 0 h.gl.pos).trans h.g0,(m.old 1 h.gl.two).trans h.g1⟩⟩;have:=q b e;show (if b<w.heap.size then d b else if a.ownBlock=some b then some 2 else none)=_;rw [if_neg (by omega),if_pos e]
theorem Qkj {f:Qu} {w:World} {u:Nat} {S:Us} (h:QA f w u S) (n:S.T.length<=10) (B:ZX S.tn S.lk=0) (t:S.lk.length<=48) (v:0<=S.tn/\S.tn<=1000000) : Calls Tryz.prog 75 #[.pointer (some ⟨u,1,none⟩)] w λe w1=>e=.returned (.chan (some w.heap.size))/\w1.heap[w.heap.size]?=some (.chan 48 #[] false 0 0 false)/\f w.heap.size=none/\QA f w1 u S/\Qx (λx=>x=u) w w1:=by
 obtain ⟨ao,c,o⟩:=Qz h.rl.row;have g:=h.c3;rw [o] at g;have p:f w.heap.size=none:=by cases e:f w.heap.size with| none=>rfl| some r=>have:=h.cs.low w.heap.size (by rw [e];rfl);omega
 rcases Nat.eq_zero_or_pos S.lk.length with k|k
 ·rw [k] at g;refine (Qtw u 1 c ao w g h.lt).mono ?_;rintro e w1 ⟨rfl,m,hb⟩;exact ⟨rfl,m,p,h.below n hb,.of_below hb⟩
 have i:=h.rl;rw [o] at i;rcases i.row.2 with ⟨_,e⟩|⟨b,cap,F,e,_,hb,y,z,_⟩
 ·omega
 obtain ⟨rfl,_,rfl⟩:=Value.slice.inj e;have q:f b=some 2:=i.role b rfl;have A:b≠u:=λe=>by rw [e,h.cs.role] at q;have:=Option.some.inj q;omega
 refine (QjC u 1 b S.lk.length c S.tn S.lk w rfl k t y (by unfold maxLen at z;omega) v h.c2 g (h.cs.froz _) (λj x C=>?_) A (QN hb) h.lt).mono ?_
 ·obtain ⟨D,rfl⟩:=List.getElem?_eq_some_iff.1 C;exact QhQ i.row rfl j D
 rintro e w1 ⟨rfl,d⟩;rw [B] at d;have m:w1.heap[w.heap.size]?=some (.chan 48 #[] false 0 0 false):=by simpa using d.chan
 refine ⟨rfl,m,p,h.same n d.far (λj=>?_) d.froz,d.far⟩;by_cases s:j=3
 ·subst s;obtain ⟨a,E,l,_⟩:=d.c2;have l:w1.cell? ⟨u,3,none⟩=some (.slice (some a) (S.lk.length-0) (c-0)):=l;rw [l,E k,g];simp
 exact d.own j s
theorem QcE.set {l g:Qu} {P:Nat->Prop} {w w':World} (m:Mv l g P w w') (p:∀ b,(l b).isSome=true->b<w.heap.size) {tg:Nat} {T:List Tk} (h:QcE l w tg T) (i:Nat) (y:i<T.length) (c:Tk) (x:∀ r,10<=r->r<30->P r->r=20+i) (z:∀ j,j<i*3 \/ i*3+3<=j->w'.cell? ⟨tg,j,none⟩=w.cell? ⟨tg,j,none⟩) (A:w'.rangeAt tg (i*3) c.cells) (B:∀ j,w'.frozen? ⟨tg,j,none⟩=w.frozen? ⟨tg,j,none⟩) (n:Qb9 g w' i c) (D:T.length<=10):QcE g w' tg (T.set i c):=by
 have o:0<T.length:=by omega
 have C:tg<w.heap.size:=p tg (by rw [h.role o];rfl);have q:∀ k t,k≠i->(T.set i c)[k]?=some t->T[k]?=some t:=λk t n e=>by rwa [getElem?_set_ne (Ne.symm n)] at e
 have s:∀ t,(T.set i c)[i]?=some t->t=c:=λt e=>by rw [getElem?_set_self y] at e;exact (Option.some.inj e).symm
 refine ⟨λ_=>(m.old tg C).trans (h.role o),λk t d r v f=>?_,λ_ j=>(B j).trans (h.froz o j),λk t d=>?_⟩
 ·have F:r<3:=(List.getElem?_eq_some_iff.1 f).1;by_cases e:k=i
  ·subst e;rw [s t d] at f;exact A r v f
  rw [z _ (by omega)];exact h.row k t (q k t e d) r v f
 by_cases e:k=i
 ·subst e;rw [s t d];exact n
 have u:=q k t e d;have E:k<T.length:=(List.getElem?_eq_some_iff.1 u).1;exact (h.each k t u).mv m p (λa=>by have:=x _ (by omega) (by omega) a;omega) (λa=>by have:=x _ (by omega) (by omega) a;omega)
def Zg (cm:List (Int × Int)):Int:=match cm.getLast? with|none=>0|some c=>c.1
theorem QgV (l:List (Int × Int)) (i r:Nat) (b:r<2):(JN l)[i*2+r]?=(l[i]?).bind λc=>[Value.int .i64 c.1,.int .i64 c.2][r]?:=by
 induction l generalizing i with
 | nil=>simp [JN]
 | cons x l ih =>
  have e:JN (x::l)=[.int .i64 x.1,.int .i64 x.2]++JN l:=by unfold JN;rw [flatMap_cons]
  rw [e];cases i with
  | zero=>rw [getElem?_append_left (by show 0*2+r<2;omega)];simp
  | succ i =>
   rw [getElem?_append_right (by show 2<=_;omega)];have a:(i+1)*2+r-[Value.int .i64 x.1,.int .i64 x.2].length=i*2+r:=by show _-2=_;omega
   rw [a,ih i];rfl
theorem Qkn {p:Qu} {w:World} {u:Nat} {S:Us} (h:QA p w u S) (o:S.T.length<=10) (x:S.cm.length<=1000000) (a:World) (q:Below w.heap.size w a) : Calls Tryz.prog 78 #[.pointer (some ⟨u,0,none⟩)] a λe w'=>e=.returned (.int .i64 (Zg S.cm))/\Below a.heap.size a w':=by
 have d:=h.below o q;obtain ⟨r,j,i⟩:=Qz d.rc.row;have b:=d.c7;rw [i] at b;have c:=d.rc;rw [i] at c;rcases Nat.eq_zero_or_pos S.cm.length with f|f
 ·rw [f] at b;have e:Zg S.cm=0:=by rw [length_eq_zero_iff.1 f];rfl
  rw [e];exact Qt2 u r j a b
 obtain ⟨n,s⟩:∃ n,S.cm.length=n+1:=⟨S.cm.length-1,by omega⟩;rcases c.row.2 with ⟨_,e⟩|⟨g,cap,y,e,_⟩
 ·omega
 obtain ⟨rfl,_,rfl⟩:=Value.slice.inj e;have m:S.cm.getLast?=some S.cm[n]:=by
  have t:S.cm.length-1=n:=by omega
  rw [getLast?_eq_getElem?,t,getElem?_eq_getElem (by omega)]
 have v:Zg S.cm=S.cm[n].1:=by unfold Zg;rw [m]
 rw [v];have k:=c.row.cellAt (n*2) (by omega);have l:=QgV S.cm n 0 (by omega);rw [Nat.add_zero] at l;rw [l,getElem?_eq_getElem (by omega)] at k;rw [s] at b;exact QtD u g n j _ a b k (by omega)
theorem QnX {g:Qu} {w:World} {u:Nat} {S:Us} (h:QA g w u S) (d:S.T.length<=10) (a:World) (i:Below w.heap.size w a) : Calls Tryz.prog 42 #[.pointer (some ⟨u,0,none⟩)] a λe w'=>e=.returned (.int .i64 S.cm.length)/\w'=a:=by have b:=h.below d i;obtain ⟨j,k,f⟩:=Qz b.rc.row;have c:=b.c7;rw [f] at c;exact QhG u j _ k a c
theorem QA.task {b:Qu} {w:World} {u:Nat} {S:Us} (h:QA b w u S) {i:Nat} {t:Tk} (c:S.T[i]?=some t):w.cell? ⟨S.tg,i*3,none⟩=some (.slice t.ao t.acts.length t.ac)/\w.cell? ⟨S.tg,i*3+1,none⟩=some t.hp/\w.cell? ⟨S.tg,i*3+2,none⟩=some (.int .i64 t.sent)/\S.tg<w.heap.size/\u≠S.tg/\i<S.T.length/\b S.tg=some 1:=by have d:i<S.T.length:=(List.getElem?_eq_some_iff.1 c).1;have a:=h.ts.role (by omega);have r:=h.ts.row i t c;refine ⟨by have:=r 0 _ rfl;rwa [Nat.add_zero] at this,r 1 _ rfl,r 2 _ rfl,h.cs.low _ (by rw [a];rfl),λe=>?_,d,a⟩;rw [<- e,h.cs.role] at a;have:=Option.some.inj a;omega
theorem QuL (l:List Ev) (e:Ev):evL (l++[e])=evL l++[.int .i64 e.tk,.int .i64 e.kd,.int .i64 e.vs,.int .i64 e.up]:=by unfold evL;rw [flatMap_append];rfl
def Tk.next (t:Tk) (ao:Addr):Tk:={ t with acts:=t.acts.tail,ao:=some ao,ac:=t.ac-1 }
theorem Qdi {α:Type} (l:List α):l.tail.length=l.length-1:=by cases l<;>simp
theorem Qb9.next {l s:Qu} {P:Nat->Prop} {w w':World} (m:Mv l s P w w') (q:∀ b,(l b).isSome=true->b<w.heap.size) {i:Nat} {t:Tk} (h:Qb9 l w i t) (A:¬ P (10+i)) (B:t.half=none \/ ¬ P (20+i)) (F:0<t.acts.length) {g p:Nat} (z:t.ao=some ⟨g,p,none⟩) (k:Addr) (C:1<t.acts.length->k=⟨g,p+6,none⟩):Qb9 s w' i (t.next k):=by
 refine ⟨λj a D=>?_,?_,?_,λx d=>?_⟩
 ·have u:t.acts[j+1]?=some a:=by have:t.acts.tail[j]?=some a:=D;rwa [List.getElem?_tail] at this
  have E:j+1<t.acts.length:=(List.getElem?_eq_some_iff.1 u).1;obtain ⟨G,H,y,c,n⟩:=h.acts (j+1) a u;rw [z] at y;cases y;have f:=q g (by rw [c];rfl);refine ⟨g,p+6,by show some k=_;rw [C (by omega)],(m.old g f).trans c,λr v o=>?_⟩;rw [show p+6+j*6+r=p+(j+1)*6+r by omega];exact (World.cell?_of_block (m.block f c A)).trans (n r v o)
 ·show t.acts.tail.length<=t.ac-1;rw [Qdi];have:=h.cap;omega
 ·show t.ac-1<=_;have:=h.big;omega
 have d:t.half=some x:=d;rcases B with e|e
 ·rw [e] at d;cases d
 obtain ⟨c,n⟩:=h.half x d;have f:=q t.hb (by rw [c];rfl);exact ⟨(m.old _ f).trans c,λr v o=>(World.cell?_of_block (m.block f c e)).trans (n r v o)⟩
theorem Qr0 {H:Qu} {w:World} {u:Nat} {S:Us} (h:QA H w u S) (D:S.T.length<=10) (a1:S.cm.length<=1000000) (a2:S.ev.length<=1000000) {i:Nat} {t:Tk} (R:S.T[i]?=some t) (I:0<t.acts.length) (J B:Int) (K:B=8/\t.sent<=Zg S.cm \/ B=9) :
  Calls Tryz.prog 44 #[.pointer (some ⟨u,0,none⟩),.pointer (some ⟨S.tg,i*3,none⟩),.int .i64 J,.int .i64 B] w λe w'=>e=.returned (.int .i64 0)/\∃ x c o,QB H x w w'/\QA x w' u { S with T:=S.T.set i (t.next c),ev:=S.ev++[⟨J,B,S.cm.length,Zg S.cm⟩],ve:=o }:=by
 obtain ⟨L,a6,U,G,M,a7,E⟩:=h.task R
 have F:=h.ts.each i t R
 obtain ⟨a8,a3⟩:∃ a,t.acts[0]?=some a:=⟨_,getElem?_eq_getElem I⟩
 obtain ⟨g,p,N,_,_⟩:=F.acts 0 a8 a3
 rw [N] at L
 obtain ⟨a9,aa,O⟩:=Qz h.re.row
 have V:=h.c6
 rw [O] at V
 have z:=h.re
 rw [O] at z
 have a4:=h.ts.froz (by omega)
 refine (Qsz u S.tg (i*3) g p t.acts.length t.ac J B t.sent (Zg S.cm) a9 S.ev.length aa S.cm.length (evL S.ev) w I F.cap F.big a2 L U (a4 _) V (h.cs.froz _) M h.lt G z.row (λe=>?_) (λe=>?_) K (Qa λy d=>QnX h D y d) (Qa λy d=>Qkn h D a1 y d)).mono ?_
 ·have:=z.role u e;rw [h.cs.role] at this;have:=Option.some.inj this;omega
 ·have:=z.role S.tg e;rw [E] at this;have:=Option.some.inj this;omega
 ·rintro e w' ⟨rfl,y,w2,o,A,c,d,ab,ad,ae,rfl⟩
  refine ⟨rfl,?_⟩
  have a5:=h.below D d
  obtain ⟨x,m,W,af,aj,f,s⟩:=Qme (j:=153) a5 z.role ab ad (by omega)
  have ap:=m.far.size
  have al:=d.size
  have a0:∀ b,x b=some 4->b≠S.tg:=λb e ag=>by
   rw [ag,m.old S.tg (by omega),E] at e
   have:=Option.some.inj e
   omega
  -- the task's cell
  have X:(w2.setCell ⟨u,153,none⟩ o).heap[S.tg]?=y.heap[S.tg]?:=m.block (by omega) E (by omega)
  have ak:S.tg<(w2.setCell ⟨u,153,none⟩ o).heap.size:=by omega
  have l:Mv H x (λr=>r=0 \/ r=4 \/ r=1) w ((w2.setCell ⟨u,153,none⟩ o).setCell ⟨S.tg,i*3,none⟩ (.slice (some c) (t.acts.length-1) (t.ac-1))):=by
   refine ⟨Qx.set (((Qx.of_below d).trans (m.far.mono λb _ ⟨r,e,ah⟩=>.inl ⟨r,e,by omega⟩))) (.inl ⟨1,E,by omega⟩) _,λb hb=>m.old b (by omega),λb e=>?_⟩
   have:=m.low b e
   simpa [World.setCell] using this
  generalize ao:w2.setCell ⟨u,153,none⟩ o=C at *
  have Y:∀ k,(C.setCell ⟨S.tg,i*3,none⟩ (.slice (some c) (t.acts.length-1) (t.ac-1))).cell? ⟨u,k,none⟩=C.cell? ⟨u,k,none⟩:=λk=>World.cell?_setCell_other _ _ _ _ (by intro e;cases e;exact M rfl)
  have P:∀ k,y.cell? ⟨u,k,none⟩=w.cell? ⟨u,k,none⟩:=λk=>d.cell (p:=⟨u,k,none⟩) h.lt
  have q:∀ k,k≠153->(C.setCell ⟨S.tg,i*3,none⟩ (.slice (some c) (t.acts.length-1) (t.ac-1))).cell? ⟨u,k,none⟩=w.cell? ⟨u,k,none⟩:=λk K=>(Y k).trans ((aj k K).trans (P k))
  have ai:∀ k,(C.setCell ⟨S.tg,i*3,none⟩ (.slice (some c) (t.acts.length-1) (t.ac-1))).frozen? ⟨u,k,none⟩=w.frozen? ⟨u,k,none⟩:=λk=>(World.frozen?_setCell ..).trans ((f k).trans (d.frozen (p:=⟨u,k,none⟩) h.lt))
  have tc:∀ j,C.cell? ⟨S.tg,j,none⟩=w.cell? ⟨S.tg,j,none⟩:=λj=>(World.cell?_of_block X).trans (d.cell (p:=⟨S.tg,j,none⟩) G)
  refine ⟨x,c,o,l.out,⟨?_,λ_=>h.ta (by omega),(q _ (by omega)).trans h.c1,(q _ (by omega)).trans h.c2,(q _ (by omega)).trans h.c3,(q _ (by omega)).trans h.c4,(q _ (by omega)).trans h.c5,(Y _).trans (s ⟨_,(P _).trans h.c6⟩),(q _ (by omega)).trans h.c7,h.cs.mv l (by intro k _;omega) (λj aq ar=>q _ (by omega)) ai,?_,h.rl.mv l h.cs.low (by omega),h.rb.mv l h.cs.low (by omega),⟨?_,W⟩,h.rc.mv l h.cs.low (by omega),h.dc.mv l h.cs.low (by omega),h.gl.mv l h.g0 h.g1,(l.old 0 h.gl.pos).trans h.g0,(l.old 1 h.gl.two).trans h.g1⟩⟩
  ·show _=some (Value.slice S.tao (S.T.set i (t.next c)).length S.tc)
   rw [length_set]
   exact (q _ (by omega)).trans h.c0
  ·refine h.ts.set l h.cs.low i a7 (t.next c) (by intro r _ _ ah;omega) (λj au=>?_) (λr v n=>?_) (λj=>?_) (F.next l h.cs.low (by omega) (.inr (by omega)) I N c ae) D
   ·exact (Z8 _ _ _ _ _ (by omega)).trans (tc j)
   ·match r,n with
    | 0,n =>
     cases n
     rw [Nat.add_zero]
     show _=some (Value.slice (some c) t.acts.tail.length (t.ac-1))
     rw [Qdi]
     exact World.cell?_setCell_same _ _ _ ((tc _).trans L)
    | 1,n=>cases n;exact (Z8 _ _ _ _ _ (by omega)).trans ((tc _).trans a6)
    | 2,n=>cases n;exact (Z8 _ _ _ _ _ (by omega)).trans ((tc _).trans U)
    | r+3,n=>simp [Tk.cells] at n
   ·exact (World.frozen?_setCell ..).trans ((World.frozen?_of_block X).trans (d.frozen (p:=⟨S.tg,j,none⟩) G))
  ·show World.ownsRow _ 0 38 4 o (S.ev++[_]).length (evL (S.ev++[_]))
   rw [QuL,length_append]
   exact QT af λb e=>Below.heap_setCell _ _ _ _ (a0 b (W b e))
def Qbj (C:Nat->Pc) (a:Ac):Int:=if (C a.nm.toNat).on then (C a.nm.toNat).gen else 0
theorem Qpb {H:Qu} {w:World} {u:Nat} {S:Us} (h:QA H w u S) (ag:S.T.length<=10) {i:Nat} {t:Tk} (a6:S.T[i]?=some t) (au:t.half=none) (a:Ac) (O:t.acts[0]?=some a) (aI:1<=a.nm/\a.nm<=20) (av:0<=S.gv/\S.gv<=1000000) :
  Calls Tryz.prog 45 #[.pointer (some ⟨u,0,none⟩),.pointer (some ⟨S.tg,i*3,none⟩)] w λe w'=>e=.returned (.tuple #[])/\∃ a2 hb,QB H a2 w w'/\QA a2 w' u { S with gv:=S.gv+1,T:=S.T.set i { t with half:=some ⟨a,S.gv+1,Qbj (Qh S.C) a⟩,sent:=S.gv+1,hb:=hb } }:=by
 obtain ⟨P,R,a7,M,F,aw,ah⟩:=h.task a6
 have I:=h.ts.each i t a6
 have ax:0<t.acts.length:=by
  rcases Nat.eq_zero_or_pos t.acts.length with e|e
  ·rw [length_eq_zero_iff.1 e] at O;cases O
  ·exact e
 obtain ⟨g,p,a3,_,a4⟩:=I.acts 0 a O
 rw [Nat.zero_mul,Nat.add_zero] at a4
 rw [a3] at P
 have ai:t.hp=.pointer none:=by unfold Tk.hp;rw [au];rfl
 rw [ai] at R
 have a5:=h.ts.froz (by omega)
 have G:=h.lt
 obtain ⟨k,a8⟩:∃ k:Nat,a.nm=k:=⟨a.nm.toNat,by omega⟩
 have a1:k<21:=by omega
 have ae:Qbj (Qh S.C) a=if (S.C k).on then (S.C k).gen else 0:=by unfold Qbj;rw [a8,Int.toNat_natCast];rfl
 have ay:(w.alloc (.cells #[.int .i64 a.kd,.int .i64 a.nm,.int .i64 a.pa,.int .i64 a.fl,.int .i64 a.n,.int .i64 a.m] 34)).heap.size=w.heap.size+1:=by simp
 have o:=(Below.refl w.heap.size w).alloc (Nat.le_refl _) (.cells #[.int .i64 a.kd,.int .i64 a.nm,.int .i64 a.pa,.int .i64 a.fl,.int .i64 a.n,.int .i64 a.m] 34)
 have J:∀ (U:World) (b j:Nat) (v:Value),(U.setCell ⟨b,j,none⟩ v).heap.size=U.heap.size:=λU b j v=>by simp [World.setCell]
 refine (QqB u S.tg (i*3) g p t.acts.length t.ac a S.gv (Qbj (Qh S.C) a) t.sent w ax P R a7 (a5 _) (a5 _) a4 h.c1 (h.cs.froz _) F G M av (Qa λad az=>?_)).mono ?_
 ·have z:=h.cs.set.cm k a1
  have A:∀ j,j≠1->ad.cell? ⟨u,j,none⟩=w.cell? ⟨u,j,none⟩:=λj s=>by
   rw [az.cell (p:=⟨u,j,none⟩) (by show u<_;omega),World.cell?_setCell_other _ _ _ _ (by intro e;cases e;exact F rfl),Z8 _ _ _ _ _ s]
   exact o.cell (p:=⟨u,j,none⟩) G
  rw [ae,a8]
  exact QmX u 5 k (S.C k) ad a1 ⟨(A _ (by omega)).trans z.c0,(A _ (by omega)).trans z.c1,(A _ (by omega)).trans z.c2,(A _ (by omega)).trans z.c3,(A _ (by omega)).trans z.c4,(A _ (by omega)).trans z.c5,(A _ (by omega)).trans z.c6⟩
 ·rintro e w' ⟨rfl,c,l,rfl⟩
  refine ⟨rfl,?_⟩
  generalize Qbj (Qh S.C) a=D at *
  have aj:=l.size
  rw [J,J,ay] at aj
  have q:=(Below.refl c.heap.size c).alloc (Nat.le_refl _) (.cells #[.int .i64 a.kd,.int .i64 a.nm,.int .i64 a.pa,.int .i64 a.fl,.int .i64 a.n,.int .i64 a.m,.int .i64 (S.gv+1),.int .i64 D] 167)
  have ak:(c.alloc (.cells #[.int .i64 a.kd,.int .i64 a.nm,.int .i64 a.pa,.int .i64 a.fl,.int .i64 a.n,.int .i64 a.m,.int .i64 (S.gv+1),.int .i64 D] 167)).heap[c.heap.size]?=some (.cells #[.int .i64 a.kd,.int .i64 a.nm,.int .i64 a.pa,.int .i64 a.fl,.int .i64 a.n,.int .i64 a.m,.int .i64 (S.gv+1),.int .i64 D] 167 (0,0)):=heap_alloc_new c _
  have aJ:(c.alloc (.cells #[.int .i64 a.kd,.int .i64 a.nm,.int .i64 a.pa,.int .i64 a.fl,.int .i64 a.n,.int .i64 a.m,.int .i64 (S.gv+1),.int .i64 D] 167)).heap.size=c.heap.size+1:=by simp
  have af:∀ d,d<w.heap.size->d≠u->d≠S.tg->c.heap[d]?=w.heap[d]?:=λd B V K=>by
   rw [l.block d (by omega),Below.heap_setCell _ _ _ _ K,Below.heap_setCell _ _ _ _ V]
   exact o.block d B
  have u4:∀ j,j≠1->c.cell? ⟨u,j,none⟩=w.cell? ⟨u,j,none⟩:=λj s=>by
   rw [l.cell (p:=⟨u,j,none⟩) (by show u<_;omega),World.cell?_setCell_other _ _ _ _ (by intro e;cases e;exact F rfl),Z8 _ _ _ _ _ s]
   exact o.cell (p:=⟨u,j,none⟩) G
  have u41:c.cell? ⟨u,1,none⟩=some (.int .i64 (S.gv+1)):=by
   rw [l.cell (p:=⟨u,1,none⟩) (by show u<_;omega),World.cell?_setCell_other _ _ _ _ (by intro e;cases e)]
   exact World.cell?_setCell_same _ _ _ ((o.cell (p:=⟨u,1,none⟩) G).trans h.c1)
  have al:∀ j,c.frozen? ⟨u,j,none⟩=w.frozen? ⟨u,j,none⟩:=λj=>by
   rw [l.frozen (p:=⟨u,j,none⟩) (by show u<_;omega),World.frozen?_setCell,World.frozen?_setCell]
   exact o.frozen (p:=⟨u,j,none⟩) G
  have N:∀ j,((w.alloc (.cells #[.int .i64 a.kd,.int .i64 a.nm,.int .i64 a.pa,.int .i64 a.fl,.int .i64 a.n,.int .i64 a.m] 34)).setCell ⟨u,1,none⟩ (.int .i64 (S.gv+1))).cell? ⟨S.tg,j,none⟩=w.cell? ⟨S.tg,j,none⟩:=λj=>by
   rw [World.cell?_setCell_other _ _ _ _ (by intro e;cases e;exact F rfl)]
   exact o.cell (p:=⟨S.tg,j,none⟩) M
  have W:∀ j,j≠i*3+2->c.cell? ⟨S.tg,j,none⟩=w.cell? ⟨S.tg,j,none⟩:=λj s=>by
   rw [l.cell (p:=⟨S.tg,j,none⟩) (by show S.tg<_;omega),Z8 _ _ _ _ _ s]
   exact N j
  have ap:c.cell? ⟨S.tg,i*3+2,none⟩=some (.int .i64 (S.gv+1)):=by
   rw [l.cell (p:=⟨S.tg,i*3+2,none⟩) (by show S.tg<_;omega)]
   exact World.cell?_setCell_same _ _ _ ((N _).trans a7)
  have aq:∀ j,c.frozen? ⟨S.tg,j,none⟩=w.frozen? ⟨S.tg,j,none⟩:=λj=>by
   rw [l.frozen (p:=⟨S.tg,j,none⟩) (by show S.tg<_;omega),World.frozen?_setCell,World.frozen?_setCell]
   exact o.frozen (p:=⟨S.tg,j,none⟩) M
  have aA:=l.os.trans o.os
  have aB:=l.tape.trans o.tape
  have aC:=l.output.trans o.output
  clear l N
  generalize (c.alloc (.cells #[.int .i64 a.kd,.int .i64 a.nm,.int .i64 a.pa,.int .i64 a.fl,.int .i64 a.n,.int .i64 a.m,.int .i64 (S.gv+1),.int .i64 D] 167))=E at *
  have m:Mv H (λd=>if d<w.heap.size then H d else if d=c.heap.size then some (20+i) else none) (λr=>r=0 \/ r=1) w (E.setCell ⟨S.tg,i*3+1,none⟩ (.pointer (some ⟨c.heap.size,0,none⟩))):=by
   refine ⟨⟨q.os.trans aA,q.tape.trans aB,q.output.trans aC,by rw [J];omega,λd B a9=>?_⟩,λd B=>if_pos B,λd e=>?_⟩
   ·have V:d≠u:=λe=>a9 ⟨0,by rw [e];exact h.cs.role,.inl rfl⟩
    have K:d≠S.tg:=λe=>a9 ⟨1,by rw [e];exact ah,.inr rfl⟩
    rw [Below.heap_setCell _ _ _ _ K,q.block d (by omega)]
    exact af d B V K
   ·rw [J]
    by_cases B:d<w.heap.size
    ·omega
    ·simp only [if_neg B] at e
     by_cases aD:d=c.heap.size
     ·omega
     ·rw [if_neg aD] at e;cases e
  have aa:∀ j,(E.setCell ⟨S.tg,i*3+1,none⟩ (.pointer (some ⟨c.heap.size,0,none⟩))).cell? ⟨u,j,none⟩=c.cell? ⟨u,j,none⟩:=λj=>(World.cell?_setCell_other _ _ _ _ (by intro e;cases e;exact F rfl)).trans (q.cell (p:=⟨u,j,none⟩) (by show u<_;omega))
  have y:∀ j,j≠1->(E.setCell ⟨S.tg,i*3+1,none⟩ (.pointer (some ⟨c.heap.size,0,none⟩))).cell? ⟨u,j,none⟩=w.cell? ⟨u,j,none⟩:=λj s=>(aa j).trans (u4 j s)
  have aE:∀ j,(E.setCell ⟨S.tg,i*3+1,none⟩ (.pointer (some ⟨c.heap.size,0,none⟩))).frozen? ⟨u,j,none⟩=w.frozen? ⟨u,j,none⟩:=λj=>(World.frozen?_setCell ..).trans ((q.frozen (p:=⟨u,j,none⟩) (by show u<_;omega)).trans (al j))
  have L:∀ j,E.cell? ⟨S.tg,j,none⟩=c.cell? ⟨S.tg,j,none⟩:=λj=>q.cell (p:=⟨S.tg,j,none⟩) (by show S.tg<_;omega)
  refine ⟨_,c.heap.size,m.out,⟨?_,λ_=>h.ta (by omega),(aa _).trans u41,(y _ (by omega)).trans h.c2,(y _ (by omega)).trans h.c3,(y _ (by omega)).trans h.c4,(y _ (by omega)).trans h.c5,(y _ (by omega)).trans h.c6,(y _ (by omega)).trans h.c7,h.cs.mv m (by intro k _;omega) (λj aK aL=>y _ (by omega)) aE,?_,h.rl.mv m h.cs.low (by omega),h.rb.mv m h.cs.low (by omega),h.re.mv m h.cs.low (by omega),h.rc.mv m h.cs.low (by omega),h.dc.mv m h.cs.low (by omega),h.gl.mv m h.g0 h.g1,(m.old 0 h.gl.pos).trans h.g0,(m.old 1 h.gl.two).trans h.g1⟩⟩
  ·show _=some (Value.slice S.tao (S.T.set i _).length S.tc)
   rw [length_set]
   exact (y _ (by omega)).trans h.c0
  ·refine h.ts.set m h.cs.low i aw _ (by intro r _ _ aM;omega) (λj s=>?_) (λr v f=>?_) (λj=>?_) ⟨λj b hb=>?_,I.cap,I.big,λx X=>⟨?_,λr v f=>?_⟩⟩ ag
   ·exact (Z8 _ _ _ _ _ (by omega)).trans ((L j).trans (W j (by omega)))
   ·match r,f with
    | 0,f =>
     cases f
     have ar:w.cell? ⟨S.tg,i*3+0,none⟩=some (.slice t.ao t.acts.length t.ac):=by rw [Nat.add_zero,a3];exact P
     exact (Z8 _ _ _ _ _ (by omega)).trans ((L _).trans ((W _ (by omega)).trans ar))
    | 1,f=>cases f;exact World.cell?_setCell_same _ _ _ ((L _).trans ((W _ (by omega)).trans R))
    | 2,f=>cases f;exact (Z8 _ _ _ _ _ (by omega)).trans ((L _).trans ap)
    | r+3,f=>simp [Tk.cells] at f
   ·exact (World.frozen?_setCell ..).trans ((q.frozen (p:=⟨S.tg,j,none⟩) (by show S.tg<_;omega)).trans (aq j))
   ·obtain ⟨Y,aF,aG,a0,aH⟩:=I.acts j b hb
    have ab:=h.cs.low Y (by rw [a0];rfl)
    exact ⟨Y,aF,aG,(m.old Y ab).trans a0,λr v f=>(World.cell?_of_block (m.block ab a0 (by omega))).trans (aH r v f)⟩
   ·show (if c.heap.size<w.heap.size then H c.heap.size else if c.heap.size=c.heap.size then some (20+i) else none)=_
    rw [if_neg (by omega),if_pos rfl]
   ·have X:(⟨a,S.gv+1,D⟩:Qm)=x:=Option.some.inj X
    subst X
    rw [Nat.zero_add]
    show (E.setCell _ _).cell? ⟨c.heap.size,r,none⟩=some v
    rw [World.cell?_setCell_other _ _ _ _ (by intro e;have e:=congrArg Addr.block e;simp only at e;omega)]
    refine Qf ak r v ?_
    rw [<- Array.getElem?_toList]
    exact f
theorem QtV {B:Qu} {w:World} {u:Nat} {S:Us} (h:QA B w u S) (ai:S.T.length<=10) {i:Nat} {t:Tk} (ab:S.T[i]?=some t) (x:Qm) (ad:t.half=some x) (M:0<t.acts.length) (aj:S.lk.length<=48) (ay:Ups S.lk) (ak:0<=x.t/\x.t<=1000000) (az:∀ c,c ∈ S.lk->0<=c.t/\c.t<=1000000) :
  Calls Tryz.prog 45 #[.pointer (some ⟨u,0,none⟩),.pointer (some ⟨S.tg,i*3,none⟩)] w λe w'=>e=.returned (.tuple #[])/\∃ a0 p f d,p<=S.lk.length/\(∀ j,(I:j<S.lk.length)->j<p->S.lk[j].t<x.t)/\(∀ j,(I:j<S.lk.length)->p<=j->x.t<=S.lk[j].t)/\QB B a0 w w'/\QA a0 w' u { S with lk:=S.lk.take p++[x]++S.lk.drop p,lv:=d,T:=S.T.set i (Tk.next { t with half:=none } f) }:=by
 obtain ⟨N,J,aA,a1,G,aB,L⟩:=h.task ab
 have C:=h.ts.each i t ab
 obtain ⟨aC,al⟩:∃ a,t.acts[0]?=some a:=⟨_,getElem?_eq_getElem M⟩
 obtain ⟨g,p,a2,_,_⟩:=C.acts 0 aC al
 rw [a2] at N
 have ao:t.hp=.pointer (some ⟨t.hb,0,none⟩):=by unfold Tk.hp;rw [ad];rfl
 rw [ao] at J
 obtain ⟨H,a3⟩:=C.half x ad
 have ap:=h.cs.low t.hb (by rw [H];rfl)
 have a4:=h.ts.froz (by omega)
 have a5:=h.lt
 obtain ⟨D,E,a6⟩:=Qz h.rl.row
 have O:=h.c3
 rw [a6] at O
 have A:=h.rl
 rw [a6] at A
 have a7:(Value.slice D S.lk.length E).ownBlock≠some u:=λe=>by have:=A.role u e;rw [h.cs.role] at this;have:=Option.some.inj this;omega
 have Y:(Value.slice D S.lk.length E).ownBlock≠some S.tg:=λe=>by have:=A.role S.tg e;rw [L] at this;have:=Option.some.inj this;omega
 have aq:(Value.slice D S.lk.length E).ownBlock≠some t.hb:=λe=>by have:=A.role t.hb e;rw [H] at this;have:=Option.some.inj this;omega
 have ar:t.hb≠u:=λe=>by rw [e,h.cs.role] at H;have:=Option.some.inj H;omega
 have s:∀ (P:World) (b j:Nat) (v:Value),(P.setCell ⟨b,j,none⟩ v).heap.size=P.heap.size:=λP b j v=>by simp [World.setCell]
 refine (Qpc u S.tg (i*3) t.hb x g p t.acts.length t.ac w M C.cap C.big J a3 (λw1=>∃ (q:Nat) (d:Value) (w2:World),q<=S.lk.length/\(∀ j,(I:j<S.lk.length)->j<q->S.lk[j].t<x.t)/\(∀ j,(I:j<S.lk.length)->q<=j->x.t<=S.lk[j].t)/\w1=w2.setCell ⟨u,1+2,none⟩ d/\w2.ownsRow 0 167 8 d (S.lk.length+1) (QH (S.lk.take q++[x]++S.lk.drop q))/\Qx (λb=>(Value.slice D S.lk.length E).ownBlock=some b) w.drew w2/\(d.ownBlock=(Value.slice D S.lk.length E).ownBlock \/ ∃ b,d.ownBlock=some b/\w.drew.heap.size<=b)) (Qa ?_) (Qa ?_)).mono ?_
 ·exact Qtp u 1 x S.lk D S.lk.length E w.drew rfl aj ay ak az A.row.drew O (h.cs.froz _) a5 a7
 ·rintro w1 ⟨q,d,w2,_,_,_,rfl,R,o,_⟩
  have bt:(w2.setCell ⟨u,1+2,none⟩ d).heap[S.tg]?=w.heap[S.tg]?:=(Below.heap_setCell _ _ _ _ (Ne.symm G)).trans (o.block S.tg a1 Y)
  have aD:(w2.setCell ⟨u,1+2,none⟩ d).heap[t.hb]?=w.heap[t.hb]?:=(Below.heap_setCell _ _ _ _ ar).trans (o.block t.hb ap aq)
  exact ⟨(World.cell?_of_block bt).trans N,(World.cell?_of_block bt).trans J,(World.frozen?_of_block bt).trans (a4 _),(World.frozen?_of_block bt).trans (a4 _),λr v n=>(World.cell?_of_block aD).trans (a3 r v n)⟩
 ·rintro e w' ⟨rfl,w1,f,⟨q,d,w2,aE,aF,aG,rfl,R,o,au⟩,av,rfl⟩
  refine ⟨rfl,?_⟩
  have aV:w.heap.size<=w2.heap.size:=o.size
  have a8:∀ c,d.ownBlock=some c->B c=some 2 \/ w.heap.size<=c:=λc e=>by
   rcases au with s|⟨z,s,ae⟩
   ·exact .inl (A.role c (s▸e))
   ·rw [e] at s
    have:=Option.some.inj s
    have ae:w.heap.size<=z:=ae
    exact .inr (by omega)
  have a9:∀ c,d.ownBlock=some c->c≠u/\c≠S.tg:=λc e=>by
   rcases a8 c e with l|l
   ·refine ⟨λU=>?_,λU=>?_⟩
    ·rw [U,h.cs.role] at l;have:=Option.some.inj l;omega
    ·rw [U,L] at l;have:=Option.some.inj l;omega
   ·omega
  have V:w2.heap[u]?=w.heap[u]?:=o.block u a5 a7
  have af:w2.heap[S.tg]?=w.heap[S.tg]?:=o.block S.tg a1 Y
  have aw:(w2.setCell ⟨u,1+2,none⟩ d)=w2.setCell ⟨u,3,none⟩ d:=rfl
  rw [aw]
  have aa:∀ c,c≠u->c≠S.tg->(((w2.setCell ⟨u,3,none⟩ d).setCell ⟨S.tg,i*3+1,none⟩ (.pointer none)).setCell ⟨S.tg,i*3,none⟩ (.slice (some f) (t.acts.length-1) (t.ac-1))).heap[c]?=w2.heap[c]?:=λc W K=>by
   rw [Below.heap_setCell _ _ _ _ K,Below.heap_setCell _ _ _ _ K,Below.heap_setCell _ _ _ _ W]
  have aW:(((w2.setCell ⟨u,3,none⟩ d).setCell ⟨S.tg,i*3+1,none⟩ (.pointer none)).setCell ⟨S.tg,i*3,none⟩ (.slice (some f) (t.acts.length-1) (t.ac-1))).heap.size=w2.heap.size:=by rw [s,s,s]
  have ag:∀ k,(((w2.setCell ⟨u,3,none⟩ d).setCell ⟨S.tg,i*3+1,none⟩ (.pointer none)).setCell ⟨S.tg,i*3,none⟩ (.slice (some f) (t.acts.length-1) (t.ac-1))).cell? ⟨u,k,none⟩=(w2.setCell ⟨u,3,none⟩ d).cell? ⟨u,k,none⟩:=λk=>by
   rw [World.cell?_setCell_other _ _ _ _ (by intro e;exact G (congrArg Addr.block e).symm),World.cell?_setCell_other _ _ _ _ (by intro e;exact G (congrArg Addr.block e).symm)]
  have y:∀ k,k≠3->(((w2.setCell ⟨u,3,none⟩ d).setCell ⟨S.tg,i*3+1,none⟩ (.pointer none)).setCell ⟨S.tg,i*3,none⟩ (.slice (some f) (t.acts.length-1) (t.ac-1))).cell? ⟨u,k,none⟩=w.cell? ⟨u,k,none⟩:=λk aH=>(ag k).trans ((Z8 _ _ _ _ _ aH).trans (World.cell?_of_block V))
  have aI:=(ag 3).trans (World.cell?_setCell_same w2 ⟨u,3,none⟩ d ((World.cell?_of_block V).trans O))
  have aJ:∀ k,(((w2.setCell ⟨u,3,none⟩ d).setCell ⟨S.tg,i*3+1,none⟩ (.pointer none)).setCell ⟨S.tg,i*3,none⟩ (.slice (some f) (t.acts.length-1) (t.ac-1))).frozen? ⟨u,k,none⟩=w.frozen? ⟨u,k,none⟩:=λk=>by
   rw [World.frozen?_setCell,World.frozen?_setCell,World.frozen?_setCell]
   exact World.frozen?_of_block V
  have tc:∀ k,(w2.setCell ⟨u,3,none⟩ d).cell? ⟨S.tg,k,none⟩=w.cell? ⟨S.tg,k,none⟩:=λk=>by
   rw [World.cell?_setCell_other _ _ _ _ (by intro e;exact G (congrArg Addr.block e))]
   exact World.cell?_of_block af
  have ah:∀ k,k≠i*3->k≠i*3+1->(((w2.setCell ⟨u,3,none⟩ d).setCell ⟨S.tg,i*3+1,none⟩ (.pointer none)).setCell ⟨S.tg,i*3,none⟩ (.slice (some f) (t.acts.length-1) (t.ac-1))).cell? ⟨S.tg,k,none⟩=w.cell? ⟨S.tg,k,none⟩:=λk aK aL=>(Z8 _ _ _ _ _ aK).trans ((Z8 _ _ _ _ _ aL).trans (tc k))
  have aM:(((w2.setCell ⟨u,3,none⟩ d).setCell ⟨S.tg,i*3+1,none⟩ (.pointer none)).setCell ⟨S.tg,i*3,none⟩ (.slice (some f) (t.acts.length-1) (t.ac-1))).cell? ⟨S.tg,i*3+1,none⟩=some (.pointer none):=(Z8 _ _ _ _ _ (by omega)).trans (World.cell?_setCell_same _ _ _ ((tc _).trans J))
  have aN:(((w2.setCell ⟨u,3,none⟩ d).setCell ⟨S.tg,i*3+1,none⟩ (.pointer none)).setCell ⟨S.tg,i*3,none⟩ (.slice (some f) (t.acts.length-1) (t.ac-1))).cell? ⟨S.tg,i*3,none⟩=some (.slice (some f) (t.acts.length-1) (t.ac-1)):=World.cell?_setCell_same _ _ _ ((Z8 _ _ _ _ _ (by omega)).trans ((tc _).trans N))
  have aO:∀ k,(((w2.setCell ⟨u,3,none⟩ d).setCell ⟨S.tg,i*3+1,none⟩ (.pointer none)).setCell ⟨S.tg,i*3,none⟩ (.slice (some f) (t.acts.length-1) (t.ac-1))).frozen? ⟨S.tg,k,none⟩=w.frozen? ⟨S.tg,k,none⟩:=λk=>by
   rw [World.frozen?_setCell,World.frozen?_setCell,World.frozen?_setCell]
   exact World.frozen?_of_block af
  have aP:(((w2.setCell ⟨u,3,none⟩ d).setCell ⟨S.tg,i*3+1,none⟩ (.pointer none)).setCell ⟨S.tg,i*3,none⟩ (.slice (some f) (t.acts.length-1) (t.ac-1))).os=w.os:=o.os
  have aQ:(((w2.setCell ⟨u,3,none⟩ d).setCell ⟨S.tg,i*3+1,none⟩ (.pointer none)).setCell ⟨S.tg,i*3,none⟩ (.slice (some f) (t.acts.length-1) (t.ac-1))).tape=w.tape:=o.tape
  have aR:(((w2.setCell ⟨u,3,none⟩ d).setCell ⟨S.tg,i*3+1,none⟩ (.pointer none)).setCell ⟨S.tg,i*3,none⟩ (.slice (some f) (t.acts.length-1) (t.ac-1))).output=w.output:=o.output
  generalize (((w2.setCell ⟨u,3,none⟩ d).setCell ⟨S.tg,i*3+1,none⟩ (.pointer none)).setCell ⟨S.tg,i*3,none⟩ (.slice (some f) (t.acts.length-1) (t.ac-1)))=aS at *
  have m:Mv B (λc=>if c<w.heap.size then B c else if d.ownBlock=some c then some 2 else none) (λr=>r=0 \/ r=1 \/ r=2) w aS:=by
   refine ⟨⟨aP,aQ,aR,by omega,λc F X=>?_⟩,λc F=>if_pos F,λc e=>?_⟩
   ·have W:c≠u:=λe=>X ⟨0,by rw [e];exact h.cs.role,.inl rfl⟩
    have K:c≠S.tg:=λe=>X ⟨1,by rw [e];exact L,.inr (.inl rfl)⟩
    have aT:(Value.slice D S.lk.length E).ownBlock≠some c:=λe=>X ⟨2,A.role c e,.inr (.inr rfl)⟩
    exact (aa c W K).trans (o.block c F aT)
   ·by_cases F:c<w.heap.size
    ·omega
    ·simp only [if_neg F] at e
     by_cases l:d.ownBlock=some c
     ·have:=(R.lt c l).2;omega
     ·rw [if_neg l] at e;cases e
  refine ⟨_,q,f,d,aE,aF,aG,m.out,⟨?_,λ_=>h.ta (by omega),(y _ (by omega)).trans h.c1,(y _ (by omega)).trans h.c2,aI,(y _ (by omega)).trans h.c4,(y _ (by omega)).trans h.c5,(y _ (by omega)).trans h.c6,(y _ (by omega)).trans h.c7,h.cs.mv m (by intro k _;omega) (λj aX aY=>y _ (by omega)) aJ,?_,⟨?_,λc e=>?_⟩,h.rb.mv m h.cs.low (by omega),h.re.mv m h.cs.low (by omega),h.rc.mv m h.cs.low (by omega),h.dc.mv m h.cs.low (by omega),h.gl.mv m h.g0 h.g1,(m.old 0 h.gl.pos).trans h.g0,(m.old 1 h.gl.two).trans h.g1⟩⟩
  ·show _=some (Value.slice S.tao (S.T.set i _).length S.tc)
   rw [length_set]
   exact (y _ (by omega)).trans h.c0
  ·have ax:Qb9 B w i { t with half:=none }:=⟨C.acts,C.cap,C.big,λ_ e=>by cases e⟩
   refine h.ts.set m h.cs.low i aB _ (by intro r _ _ aZ;omega) (λj I=>ah j (by omega) (by omega)) (λr v n=>?_) aO (ax.next m h.cs.low (by omega) (.inl rfl) M a2 f av) ai
   match r,n with
   | 0,n =>
    cases n
    rw [Nat.add_zero]
    show _=some (Value.slice (some f) t.acts.tail.length (t.ac-1))
    rw [Qdi]
    exact aN
   | 1,n=>cases n;exact aM
   | 2,n=>cases n;exact (ah _ (by omega) (by omega)).trans aA
   | r+3,n=>simp [Tk.cells] at n
  ·show World.ownsRow _ 0 167 8 d (S.lk.take q++[x]++S.lk.drop q).length (QH (S.lk.take q++[x]++S.lk.drop q))
   have aU:(S.lk.take q++[x]++S.lk.drop q).length=S.lk.length+1:=by simp;omega
   rw [aU]
   exact QT R λc e=>aa c (a9 c e).1 (a9 c e).2
  ·show (if c<w.heap.size then B c else if d.ownBlock=some c then some 2 else none)=_
   rcases a8 c e with l|l
   ·rw [if_pos (h.cs.low c (by rw [l];rfl))];exact l
   ·rw [if_neg (by omega),if_pos e]
theorem Qhv (u n c:Nat) (g:Option Addr) (x:Int) (w:World) (a:World->Prop) (h:w.cell? ⟨u,0,none⟩=some (.slice g n c)) (d:Hid (∀ b,Below w.heap.size w b->Calls Tryz.prog 43 #[.pointer (some ⟨u,0,none⟩)] b λe w'=>e=.returned (.int .i64 x)/\a w')) : Calls Tryz.prog 24 #[.pointer (some ⟨u,0,none⟩),.int .i64 0] w λe w'=>e=.returned (.int .i64 x)/\a w':=by have i:decide ((n:Int)<0)=false:=decide_eq_false (by omega);go_enter Tryz.func24,Tryz.ntmps24;go_wp2_with (first|(go_at_call 43;refine (d.out _ (by first|exact Below.refl _ _|exact (Below.refl _ _).drew)).mono ?_;rintro e w2 ⟨rfl,f⟩));go_ret;exact ⟨rfl,f⟩
theorem Qob (u tg n c i:Nat) (b:Option Addr) (ac:Nat) (t:Int) (w:World) (g:w.cell? ⟨u,0,none⟩=some (.slice (some ⟨tg,0,none⟩) n c)) (h:i<n) (a:t=i+1) (j:n<=10) (k:w.cell? ⟨tg,i*3,none⟩=some (.slice b 0 ac)) : Calls Tryz.prog 24 #[.pointer (some ⟨u,0,none⟩),.int .i64 t] w λe w'=>e=.returned (.int .i64 8)/\Below w.heap.size w w':=by
 have l:decide (t<0)=false:=decide_eq_false (by omega);have m:decide ((n:Int)<t)=false:=decide_eq_false (by omega);have o:(t==0)=false:=by simp;omega
 have d:IntKind.i64.wrap (t-1)=(i:Int):=by rw [IntKind.wrap_i64];omega
 have f:(i:Int)<(n:Int):=by omega
 clear a;go_enter Tryz.func24,Tryz.ntmps24;go_wp2;go_ret;exact ⟨rfl,by first|exact Below.refl _ _|exact (Below.refl _ _).drew⟩
theorem Qkg (u tg n c i g p m ac:Nat) (t a x:Int) (w:World) (b:World->Prop) (s:w.cell? ⟨u,0,none⟩=some (.slice (some ⟨tg,0,none⟩) n c)) (v:i<n) (h:t=i+1) (y:n<=10) (z:0<m) (A:w.cell? ⟨tg,i*3,none⟩=some (.slice (some ⟨g,p,none⟩) m ac)) (B:w.cell? ⟨g,p,none⟩=some (.int .i64 a)) (f:a=8 \/ a=9) (j:Hid (∀ d,Below w.heap.size w d->Calls Tryz.prog 44 #[.pointer (some ⟨u,0,none⟩),.pointer (some ⟨tg,i*3,none⟩),.int .i64 t,.int .i64 a] d λe w'=>e=.returned (.int .i64 x)/\b w')) : Calls Tryz.prog 24 #[.pointer (some ⟨u,0,none⟩),.int .i64 t] w λe w'=>e=.returned (.int .i64 x)/\b w':=by
 have C:decide (t<0)=false:=decide_eq_false (by omega);have D:decide ((n:Int)<t)=false:=decide_eq_false (by omega);have E:(t==0)=false:=by simp;omega
 have l:IntKind.i64.wrap (t-1)=(i:Int):=by rw [IntKind.wrap_i64];omega
 have o:(i:Int)<(n:Int):=by omega
 have q:((m:Int)==0)=false:=by simp;omega
 have r:(0:Int)<(m:Int):=by omega
 clear h;rcases f with rfl|rfl;all_goals go_enter Tryz.func24,Tryz.ntmps24;go_wp2_with (first|(go_at_call 44;refine (j.out _ (by first|exact Below.refl _ _|exact (Below.refl _ _).drew)).mono ?_;rintro e w2 ⟨rfl,k⟩));go_ret;exact ⟨rfl,k⟩
theorem Qkt (u tg n c i g p m ac:Nat) (t a:Int) (w:World) (b:World->Prop) (s:w.cell? ⟨u,0,none⟩=some (.slice (some ⟨tg,0,none⟩) n c)) (v:i<n) (h:t=i+1) (x:n<=10) (y:0<m) (z:w.cell? ⟨tg,i*3,none⟩=some (.slice (some ⟨g,p,none⟩) m ac)) (A:w.cell? ⟨g,p,none⟩=some (.int .i64 a)) (f:a≠8/\a≠9) (j:Hid (∀ d,Below w.heap.size w d->Calls Tryz.prog 45 #[.pointer (some ⟨u,0,none⟩),.pointer (some ⟨tg,i*3,none⟩)] d λe w'=>e=.returned (.tuple #[])/\b w')) : Calls Tryz.prog 24 #[.pointer (some ⟨u,0,none⟩),.int .i64 t] w λe w'=>e=.returned (.int .i64 0)/\b w':=by
 have B:decide (t<0)=false:=decide_eq_false (by omega);have C:decide ((n:Int)<t)=false:=decide_eq_false (by omega);have D:(t==0)=false:=by simp;omega
 have l:IntKind.i64.wrap (t-1)=(i:Int):=by rw [IntKind.wrap_i64];omega
 have o:(i:Int)<(n:Int):=by omega
 have q:((m:Int)==0)=false:=by simp;omega
 have r:(0:Int)<(m:Int):=by omega
 have E:(a==8)=false:=by simp;omega
 have F:(a==9)=false:=by simp;omega
 clear h f;go_enter Tryz.func24,Tryz.ntmps24;go_wp2_with (first|(go_at_call 45;refine (j.out _ (by first|exact Below.refl _ _|exact (Below.refl _ _).drew)).mono ?_;rintro e w2 ⟨rfl,k⟩));go_ret;exact ⟨rfl,k⟩
end Go.Proofs.YtobgcaemnpkbmaaGreatDoor
