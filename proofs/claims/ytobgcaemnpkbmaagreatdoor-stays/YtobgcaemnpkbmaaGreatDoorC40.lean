import Derived.Test.YtobgcaemnpkbmaaGreatDoorC39
namespace Go.Proofs.YtobgcaemnpkbmaaGreatDoor
set_option maxRecDepth 100000
set_option maxHeartbeats 8000000
open Go.RowKit List
theorem Qal {T:List Tk} {i j:Nat} {t a s:Tk} (b:T[i]?=some t) (h:(T.set i a)[j]?=some s):(j=i/\s=a) \/ (j≠i/\T[j]?=some s):=by
 have c:i<T.length:=(List.getElem?_eq_some_iff.1 b).1;by_cases e:j=i
 ·subst e;rw [getElem?_set_self c] at h;exact .inl ⟨rfl,(Option.some.inj h).symm⟩
 rw [getElem?_set_ne (λq=>e q.symm)] at h;exact .inr ⟨e,h⟩
theorem Qm0 {T:List Tk} {i:Nat} {t:Tk} (a:Tk) (b:T[i]?=some t):(T.set i a)[i]?=some a:=getElem?_set_self (List.getElem?_eq_some_iff.1 b).1
theorem QgR {T:List Tk} {i j:Nat} (a:Tk) (h:j≠i):(T.set i a)[j]?=T[j]?:=getElem?_set_ne λq=>h q.symm
theorem TOk.hf {gv tn:Int} {t:Tk} (h:TOk gv tn t):t.hf<=t.acts.length:=by
 unfold Tk.hf;rcases hh:t.half with _|x
 ·simp
 have:=(h.half x hh).2.1;have:0<t.acts.length:=by
  rcases Nat.eq_zero_or_pos t.acts.length with e|e
  ·rw [length_eq_zero_iff.1 e] at this;cases this
  exact e
 simp;omega
theorem at0 {α:Type} {l:List α} {a:α} (h:l[0]?=some a):0<l.length:=(List.getElem?_eq_some_iff.1 h).1
theorem TOk.none {gv tn:Int} {t:Tk} (h:TOk gv tn t) {a:Ac} (b:t.acts[0]?=some a) (f:a.kd=8 \/ a.kd=9):t.half=none:=by
 rcases hh:t.half with _|x
 ·rfl
 obtain ⟨c,d,_⟩:=h.half x hh;rw [d] at b;have e:=Option.some.inj b;have:=c.2.1;rw [e] at this;omega
theorem Qgp (l:List (Int × Int)) (c:Int × Int):Zg (l++[c])=c.1:=by unfold Zg;rw [List.getLast?_append];rfl
theorem Qia (l:List (Int × Int)) (k:Nat) (h:l.length=k+1) (c:Int × Int) (a:l[k]?=some c):c.1=Zg l:=by
 unfold Zg;have:l.length-1=k:=by omega
 rw [getLast?_eq_getElem?,this,a]
theorem Zt.took {S:Us} (h:Zt S) (x:Qm) (j:List Qm) (lv bv:Value) (d:S.lk=x::j) (s:x.t=S.tn+1):Zt { S with lk:=j,lv:=lv,tn:=x.t,bt:=S.bt++[x],bv:=bv }:=by
 have f:x ∈ S.lk:=by rw [d];exact mem_cons_self ..
 have l:=h.ups;rw [d] at l;obtain ⟨u1,u2⟩:=pairwise_cons.1 l;have g:∀ b,b ∈ j->b ∈ S.lk:=λb a=>by rw [d];exact mem_cons_of_mem _ a
 refine ⟨h.n4,λi t c=>⟨(h.task i t c).acts,(h.task i t c).sent,λb a=>?_⟩,h.part,u2,λb a=>⟨(h.lk b (g b a)).1,u1 b a,(h.lk b (g b a)).2.2⟩,λi t b z c a n=>h.apart i t b z c a (g z n),λk m o=>?_,λb a=>?_,?_,h.up0,(h.lk x f).2.2,h.room,h.evs,h.pok,h.seen,h.last,h.few,h.rise,h.cms,h.ev,h.evp⟩
 ·obtain ⟨p,q,r,u⟩:=(h.task i t c).half b a;have:=h.apart i t b x c a f;refine ⟨p,q,r,?_⟩;show x.t<b.t;omega
 ·have m:x.t<k:=m;rcases h.all k (by omega) o with ⟨b,a,e⟩|e
  ·rw [d] at a;rcases mem_cons.1 a with rfl|a
   ·omega
   exact .inl ⟨b,a,e⟩
  exact .inr e
 ·rcases mem_append.1 a with a|a
  ·exact h.bt b a
  rw [mem_singleton.1 a];exact (h.lk x f).1
 have:=h.batch;show ((S.bt++[x]).length:Int)=x.t-Zg S.cm;rw [length_append,length_singleton];omega
theorem Qc7.snoc {n:Nat} {cm:List (Int × Int)} {e:Ev} (h:Qc7 n cm e) (c:Int × Int):Qc7 n (cm++[c]) e:=by refine ⟨h.tk,⟨h.vs.1,by have:=h.vs.2;rw [length_append];omega⟩,h.zero,λk b d a=>?_⟩;have:=h.vs.2;rw [getElem?_append_left (by omega)] at a;exact h.pos k b d a
theorem Zt.com {S:Us} (h:Zt S) (j:Us) (lv:Value) (hb:0<S.bt.length) (n:QdP S j):Zt { j with lv:=lv }:=by
 obtain ⟨l,f,np,y,L,rfl,o,g,v⟩:=n.ex;have m:=h.batch;have u:=h.few;refine ⟨h.n4,h.task,h.part,h.ups,h.lk,h.apart,h.all,(λx p=>nomatch p),?_,?_,h.tngv,h.room,h.evs,?_,⟨L,?_⟩,?_,?_,?_,?_,λe q=>(h.ev e q).snoc _,h.evp⟩
 ·show (0:Int)=S.tn-Zg (S.cm++[(S.tn,np)]);rw [Qgp];omega
 ·show 0<=Zg (S.cm++[(S.tn,np)]);rw [Qgp];have:=h.up0;show 0<=S.tn;omega
 ·show QY (Zg (S.cm++[(S.tn,np)])) (Qh l);rw [Qgp,o];have:=QfC S.bt h.pok h.bt;rwa [m,show Zg S.cm+(S.tn-Zg S.cm)=S.tn by omega] at this
 ·show Qbq f.R f.last (Qh l) ((S.cm++[(S.tn,np)]).length:Nat) L;rw [length_append,length_singleton];exact g.is
 ·show f.last<=400*(((S.cm++[(S.tn,np)]).length:Nat)+1);rw [length_append,length_singleton];have:=h.last;have:=g.hi;omega
 ·show (((S.cm++[(S.tn,np)]).length:Nat):Int)<=Zg (S.cm++[(S.tn,np)]);rw [Qgp,length_append,length_singleton];show _<=S.tn;omega
 ·show (S.cm++[(S.tn,np)]).Pairwise _;rw [pairwise_append];refine ⟨h.rise,pairwise_singleton ..,λa r b hb=>?_⟩;rw [mem_singleton.1 hb];show a.1<S.tn; -- all commits are up to the last
  suffices a.1<=Zg S.cm by omega
  obtain ⟨i,s,rfl⟩:=getElem_of_mem r;obtain ⟨k,t⟩:∃ k,S.cm.length=k+1:=⟨S.cm.length-1,by omega⟩;rw [<- Qia S.cm k t S.cm[k] (getElem?_eq_getElem (by omega))];rcases Nat.lt_or_ge i k with e|e
  ·exact Int.le_of_lt (pairwise_iff_getElem.1 h.rise i k s (by omega) e)
  have:i=k:=by omega
  subst this;exact Int.le_refl _
 intro c d;have d:c ∈ S.cm++[(S.tn,np)]:=d;rcases mem_append.1 d with d|d
 ·exact h.cms c d
 rw [mem_singleton.1 d];have:=g.some;have:=h.up0;refine ⟨?_,?_⟩
 ·show 1<=S.tn;omega
 show 1<=np;omega
theorem Zt.lv {S:Us} (h:Zt S) (lv:Value):Zt { S with lv:=lv }:=⟨h.n4,h.task,h.part,h.ups,h.lk,h.apart,h.all,h.bt,h.batch,h.up0,h.tngv,h.room,h.evs,h.pok,h.seen,h.last,h.few,h.rise,h.cms,h.ev,h.evp⟩
theorem Zt.tell {S:Us} (h:Zt S) (i:Nat) (t:Tk) (a:Ac) (ao:Addr) (v:Value) (g:S.T[i]?=some t) (A:t.acts[0]?=some a) (I:a.kd=8/\t.sent<=Zg S.cm \/ a.kd=9):Zt { S with T:=S.T.set i (t.next ao),ev:=S.ev++[⟨i+1,a.kd,S.cm.length,Zg S.cm⟩],ve:=v }:=by
 have u:=h.task i t g;have J:=(List.getElem?_eq_some_iff.1 g).1;have p:=u.none A (by omega);have H:=at0 A;have K:=Qb1 Tk.to S.T i t (t.next ao) g;have D:=Qb1 (λt=>t.acts.length) S.T i t (t.next ao) g;have B:(t.next ao).acts.length=t.acts.length-1:=Qdi _;have L:(t.next ao).to+1=t.to:=by unfold Tk.to Tk.hf;rw [B];show t.acts.length-1-(if t.half.isSome then 1 else 0)+1=_;rw [p];simp;omega
 have o:=h.room;have C:=h.evs;have n:(t.next ao).half=none:=p;refine ⟨?_,λj s d=>?_,λj k s r x z d o f m e=>?_,h.ups,h.lk,λj s x z d f m=>?_,λk E F=>?_,h.bt,h.batch,h.up0,h.tngv,?_,?_,h.pok,h.seen,h.last,h.few,h.rise,h.cms,λe C=>?_,?_⟩
 ·show (S.T.set i _).length<=4;rw [length_set];exact h.n4
 ·rcases Qal g d with ⟨rfl,rfl⟩|⟨_,d⟩
  ·exact ⟨λb hb=>u.acts b (mem_of_mem_tail hb),u.sent,λx f=>by rw [n] at f;cases f⟩
  exact h.task j s d
 ·rcases Qal g d with ⟨rfl,rfl⟩|⟨_,d⟩
  ·rw [n] at f;cases f
  rcases Qal g o with ⟨rfl,rfl⟩|⟨_,o⟩
  ·rw [n] at m;cases m
  exact h.part j k s r x z d o f m e
 ·rcases Qal g d with ⟨rfl,rfl⟩|⟨_,d⟩
  ·rw [n] at f;cases f
  exact h.apart j s x z d f m
 ·rcases h.all k E F with e|⟨j,s,x,d,f,e⟩
  ·exact .inl e
  refine .inr ⟨j,s,x,?_,f,e⟩;show (S.T.set i _)[j]?=_;rw [QgR _ (λq=>by subst q;rw [d] at g;cases g;rw [p] at f;cases f)];exact d
 ·show S.gv+(Z6 Tk.to (S.T.set i (t.next ao)):Nat)<=48;omega
 ·show (S.ev++[_]).length+Z6 (λt=>t.acts.length) (S.T.set i (t.next ao))<=48;rw [length_append,length_singleton];simp only [B] at D;omega
 ·have l:e ∈ S.ev++[⟨i+1,a.kd,S.cm.length,Zg S.cm⟩]:=C;show Qc7 (S.T.set i _).length S.cm e;rw [length_set];rcases mem_append.1 l with l|l
  ·exact h.ev e l
  rw [mem_singleton.1 l];refine ⟨⟨by show (1:Int)<=i+1;omega,by show (i:Int)+1<=_;omega⟩,⟨by show (0:Int)<=S.cm.length;omega,Int.le_refl _⟩,λq=>?_,λk q c y=>?_⟩
  ·have q:(S.cm.length:Int)=0:=q;show Zg S.cm=0;have G:S.cm=[]:=length_eq_zero_iff.1 (by omega);rw [G];rfl
  have q:(S.cm.length:Int)=k+1:=q;exact Qia S.cm k (by omega) c y
 show (S.ev++[_]).Pairwise _;rw [pairwise_append];refine ⟨h.evp,pairwise_singleton ..,λb hb c y=>?_⟩;rw [mem_singleton.1 y];exact (h.ev b hb).vs.2
theorem Zt.send1 {S:Us} (h:Zt S) (i:Nat) (t:Tk) (a:Ac) (hb:Nat) (d:S.T[i]?=some t) (A:t.half=none) (u:t.acts[0]?=some a) (G:a.kd≠8/\a.kd≠9):Zt { S with gv:=S.gv+1,T:=S.T.set i { t with half:=some ⟨a,S.gv+1,Qbj (Qh S.C) a⟩,sent:=S.gv+1,hb:=hb } }:=by
 have B:=h.task i t d;have L:=(List.getElem?_eq_some_iff.1 d).1;have J:=at0 u;have y:=B.acts a (mem_of_getElem? u);have K:=h.tngv;obtain ⟨M,_⟩:=h.num;generalize v:({ t with half:=some ⟨a,S.gv+1,Qbj (Qh S.C) a⟩,sent:=S.gv+1,hb:=hb }:Tk)=g;have N:=Qb1 Tk.to S.T i t g d;have H:=Qb1 (λt=>t.acts.length) S.T i t g d;have o:g.half=some ⟨a,S.gv+1,Qbj (Qh S.C) a⟩:=by rw [<- v]
 have p:g.acts=t.acts:=by rw [<- v]
 have D:g.sent=S.gv+1:=by rw [<- v]
 have O:g.to+1=t.to:=by unfold Tk.to Tk.hf;rw [p,o,A];simp;omega
 have l:=h.room;have E:=h.evs;refine ⟨?_,λj s f=>?_,λj k s r x n f l c m e=>?_,h.ups,λx c=>⟨(h.lk x c).1,(h.lk x c).2.1,?_⟩,λj s x n f c m=>?_,λk I F=>?_,h.bt,h.batch,h.up0,?_,?_,?_,h.pok,h.seen,h.last,h.few,h.rise,h.cms,λe E=>?_,h.evp⟩
 ·show (S.T.set i _).length<=4;rw [length_set];exact h.n4
 ·rcases Qal d f with ⟨rfl,rfl⟩|⟨_,f⟩
  ·refine ⟨λb hb=>B.acts b (p▸hb),by rw [D];show 0<=S.gv+1/\S.gv+1<=S.gv+1;omega,λx c=>?_⟩;rw [o] at c;obtain rfl:=Option.some.inj c;refine ⟨⟨y.1,G,y.2⟩,by rw [p];exact u,D.symm,?_⟩;show S.tn<S.gv+1;omega
  have q:=h.task j s f;exact ⟨q.acts,⟨q.sent.1,by have:=q.sent.2;show s.sent<=S.gv+1;omega⟩,q.half⟩
 ·rcases Qal d f with ⟨rfl,rfl⟩|⟨_,z⟩
  ·rcases Qal d l with ⟨rfl,rfl⟩|⟨_,l⟩
   ·rfl
   rw [o] at c;obtain rfl:=Option.some.inj c;have q:=h.task k r l;have:=(q.half n m).2.2.1;have:=q.sent.2;have e:S.gv+1=n.t:=e;omega
  rcases Qal d l with ⟨rfl,rfl⟩|⟨_,l⟩
  ·rw [o] at m;obtain rfl:=Option.some.inj m;have q:=h.task j s z;have:=(q.half x c).2.2.1;have:=q.sent.2;have e:x.t=S.gv+1:=e;omega
  exact h.part j k s r x n z l c m e
 ·have:=(h.lk x c).2.2;show x.t<=S.gv+1;omega
 ·rcases Qal d f with ⟨rfl,rfl⟩|⟨_,f⟩
  ·rw [o] at c;obtain rfl:=Option.some.inj c;have:=(h.lk n m).2.2;show n.t≠S.gv+1;omega
  exact h.apart j s x n f c m
 ·have F:k<=S.gv+1:=F;rcases Int.lt_or_le S.gv k with q|q
  ·exact .inr ⟨i,g,_,Qm0 _ d,o,by show S.gv+1=k;omega⟩
  rcases h.all k I q with e|⟨j,s,x,f,c,e⟩
  ·exact .inl e
  refine .inr ⟨j,s,x,?_,c,e⟩;show (S.T.set i _)[j]?=_;rw [QgR _ (λq=>by subst q;rw [f] at d;cases d;rw [A] at c;cases c)];exact f
 ·show S.tn<=S.gv+1;omega
 ·show S.gv+1+(Z6 Tk.to (S.T.set i g):Nat)<=48;omega
 ·show S.ev.length+Z6 (λt=>t.acts.length) (S.T.set i g)<=48;simp only [p] at H;omega
 show Qc7 (S.T.set i _).length S.cm e;rw [length_set];exact h.ev e E
theorem Zt.send2 {S:Us} (h:Zt S) (i:Nat) (t:Tk) (x:Qm) (p:Nat) (ao:Addr) (v:Value) (f:S.T[i]?=some t) (n:t.half=some x) (a7:p<=S.lk.length) (M:∀ j,(u:j<S.lk.length)->j<p->S.lk[j].t<x.t) (N:∀ j,(u:j<S.lk.length)->p<=j->x.t<=S.lk[j].t):Zt { S with lk:=S.lk.take p++[x]++S.lk.drop p,lv:=v,T:=S.T.set i (Tk.next { t with half:=none } ao) }:=by
 have A:=h.task i t f;obtain ⟨R,U,V,W⟩:=A.half x n;have a8:=(List.getElem?_eq_some_iff.1 f).1;have a6:=at0 U;generalize D:Tk.next { t with half:=none } ao=l;have a9:=Qb1 Tk.to S.T i t l f;have X:=Qb1 (λt=>t.acts.length) S.T i t l f;have y:l.half=none:=by rw [<- D];rfl
 have H:l.acts=t.acts.tail:=by rw [<- D];rfl
 have Y:l.sent=t.sent:=by rw [<- D];rfl
 have I:l.acts.length=t.acts.length-1:=by rw [H];exact Qdi _
 have aa:l.to=t.to:=by unfold Tk.to Tk.hf;rw [I,y,n];simp
 have B:=h.room;have J:=h.evs;have F:∀ d,d ∈ S.lk.take p++[x]++S.lk.drop p->d=x \/ d ∈ S.lk:=λd c=>by
  simp only [mem_append,mem_singleton] at c;rcases c with (c|c)|c
  ·exact .inr (mem_of_mem_take c)
  ·exact .inl c
  exact .inr (mem_of_mem_drop c)
 have K:∀ d,d ∈ S.lk->d ∈ S.lk.take p++[x]++S.lk.drop p:=λd c=>by
  rw [<- take_append_drop p S.lk] at c;simp only [mem_append,mem_singleton] at c ⊢;rcases c with c|c
  ·exact .inl (.inl c)
  exact .inr c
 have O:∀ d,d ∈ S.lk.take p->d.t<x.t:=λd c=>by obtain ⟨j,u,rfl⟩:=getElem_of_mem c;rw [length_take] at u;rw [getElem_take];exact M j (by omega) (by omega)
 have L:∀ d,d ∈ S.lk.drop p->x.t<d.t:=λd c=>by have C:=h.apart i t x d f n (mem_of_mem_drop c);obtain ⟨j,u,rfl⟩:=getElem_of_mem c;rw [length_drop] at u;rw [getElem_drop] at C ⊢;have:=N (p+j) (by omega) (by omega);omega
 refine ⟨?_,λj s g=>?_,λj k s r x d g B o c e=>?_,?_,λd c=>?_,λj s d z g c E=>?_,λk a0 a1=>?_,h.bt,h.batch,h.up0,h.tngv,?_,?_,h.pok,h.seen,h.last,h.few,h.rise,h.cms,λe J=>?_,h.evp⟩
 ·show (S.T.set i _).length<=4;rw [length_set];exact h.n4
 ·rcases Qal f g with ⟨rfl,rfl⟩|⟨_,g⟩
  ·exact ⟨λb hb=>A.acts b (mem_of_mem_tail (H▸hb)),by rw [Y];exact A.sent,λx o=>by rw [y] at o;cases o⟩
  exact h.task j s g
 ·rcases Qal f g with ⟨rfl,rfl⟩|⟨_,g⟩
  ·rw [y] at o;cases o
  rcases Qal f B with ⟨rfl,rfl⟩|⟨_,B⟩
  ·rw [y] at c;cases c
  exact h.part j k s r x d g B o c e
 ·show (S.lk.take p++[x]++S.lk.drop p).Pairwise _;have a2:=h.ups;have P:(S.lk.take p++S.lk.drop p).Pairwise λx d=>x.t<d.t:=by rw [take_append_drop];exact a2
  obtain ⟨a3,a4,a5⟩:=pairwise_append.1 P;rw [pairwise_append,pairwise_append];refine ⟨⟨a3,pairwise_singleton ..,λa m b hb=>?_⟩,a4,λa m b hb=>?_⟩
  ·rw [mem_singleton.1 hb];exact O a m
  rcases mem_append.1 m with m|m
  ·exact a5 a m b hb
  rw [mem_singleton.1 m];exact L b hb
 ·rcases F d c with rfl|c
  ·exact ⟨R,W,by rw [V];exact A.sent.2⟩
  exact h.lk d c
 ·rcases Qal f g with ⟨rfl,rfl⟩|⟨C,G⟩
  ·rw [y] at c;cases c
  rcases F z E with rfl|E
  ·exact λe=>C (h.part j i s t d z G f c n e.symm)
  exact h.apart j s d z G c E
 ·rcases h.all k a0 a1 with ⟨d,c,e⟩|⟨j,s,d,g,c,e⟩
  ·exact .inl ⟨d,K d c,e⟩
  by_cases q:j=i
  ·subst q;rw [g] at f;cases f;rw [c] at n;cases n;exact .inl ⟨x,by simp,e⟩
  refine .inr ⟨j,s,d,?_,c,e⟩;show (S.T.set i _)[j]?=_;rw [QgR _ q];exact g
 ·show S.gv+(Z6 Tk.to (S.T.set i l):Nat)<=48;omega
 ·show S.ev.length+Z6 (λt=>t.acts.length) (S.T.set i l)<=48;simp only [I] at X;omega
 show Qc7 (S.T.set i _).length S.cm e;rw [length_set];exact h.ev e J
theorem Zt.step {S S':Us} {t x:Int} (h:Zt S) (s:J1 S t x S'):Zt S':=by cases s with| took x q lv bv l m=>exact h.took x q lv bv l m| com n lv f hb o=>exact h.com n lv hb o| wait lv f hb=>exact h.lv lv| done i t b r=>exact h| hold i t a b c d u=>exact h| tell i t a ao v b c d=>exact h.tell i t a ao v b c d| send1 i t a hb b g c d=>exact h.send1 i t a hb b g c d| send2 i t x p ao v b g f j k=>exact h.send2 i t x p ao v b g f j k
def mT (t:Tk):Nat:=4*t.acts.length-t.hf
def Us.M (S:Us):Nat:=Z6 mT S.T+2*S.lk.length+S.bt.length
def QbT (S:Us):Nat->Prop
 | 0=>ZX S.tn S.lk=0/\S.bt=[]
 | i+1=>∀ b,S.T[i]?=some b->b.acts=[] \/ ∃ a,b.acts[0]?=some a/\a.kd=8/\Zg S.cm<b.sent
theorem Qpi {S S':Us} {t x:Int} (h:Zt S) (s:J1 S t x S') (g:x=0):S'.M+1<=S.M:=by
 unfold Us.M;cases s with
 | took f y lv bv r b =>show Z6 mT S.T+2*y.length+(S.bt++[f]).length+1<=_;rw [r,length_append];simp only [length_cons,length_nil];omega| com B lv l hb u =>obtain ⟨D,E,np,F,L,rfl,_⟩:=u.ex;show Z6 mT S.T+2*S.lk.length+0+1<=_;omega
 | wait lv l hb=>cases g| done i t b G=>cases g| hold i t a b c m H=>cases g
 | tell i t a ao v b c m =>
  have n:=Qb1 mT S.T i t (t.next ao) b;have j:=(h.task i t b).none c (by omega);have k:=at0 c;have o:mT (t.next ao)=4*(t.acts.length-1):=by unfold mT Tk.hf;rw [show (t.next ao).half=none from j,show (t.next ao).acts.length=t.acts.length-1 from Qdi _];simp
  have q:mT t=4*t.acts.length:=by unfold mT Tk.hf;rw [j];simp
  show Z6 mT (S.T.set i (t.next ao))+2*S.lk.length+S.bt.length+1<=_;omega
 | send1 i t a hb b d c m =>
  have k:=at0 c;have n:=Qb1 mT S.T i t { t with half:=some ⟨a,S.gv+1,Qbj (Qh S.C) a⟩,sent:=S.gv+1,hb:=hb } b;have o:mT { t with half:=some ⟨a,S.gv+1,Qbj (Qh S.C) a⟩,sent:=S.gv+1,hb:=hb }=4*t.acts.length-1:=rfl;have q:mT t=4*t.acts.length:=by unfold mT Tk.hf;rw [d];simp
  show Z6 mT (S.T.set i _)+2*S.lk.length+S.bt.length+1<=_;omega
 | send2 i t f p ao v b d l z A =>
  have k:=at0 ((h.task i t b).half f d).2.1;have n:=Qb1 mT S.T i t (Tk.next { t with half:=none } ao) b;have o:mT (Tk.next { t with half:=none } ao)=4*(t.acts.length-1):=by unfold mT Tk.hf;rw [show (Tk.next { t with half:=none } ao).half=none from rfl,show (Tk.next { t with half:=none } ao).acts.length=t.acts.length-1 from Qdi _];simp
  have q:mT t=4*t.acts.length-1:=by unfold mT Tk.hf;rw [d];simp
  show Z6 mT (S.T.set i _)+2*(S.lk.take p++[f]++S.lk.drop p).length+S.bt.length+1<=_;rw [length_append,length_append,length_take,length_drop,length_singleton];omega
theorem Qj6 {S S':Us} {t:Nat} {x:Int} (s:J1 S t x S') (b:x≠0):(x=7 \/ x=8)/\QbT S t/\∃ lv,S'={ S with lv:=lv }:=by
 generalize n:(t:Int)=q at s;cases s with
 | took=>exact absurd rfl b| com=>exact absurd rfl b
 | wait lv g hb =>
  have:t=0:=by omega
  subst this;exact ⟨.inl rfl,⟨g,hb⟩,lv,rfl⟩
 | done i k d h =>
  have:t=i+1:=by omega
  subst this;exact ⟨.inr rfl,λj c=>by rw [d] at c;cases c;exact .inl h,S.lv,rfl⟩
 | hold i k a d l c m =>
  have:t=i+1:=by omega
  subst this;exact ⟨.inl rfl,λj f=>by rw [d] at f;cases f;exact .inr ⟨a,l,c,m⟩,S.lv,rfl⟩
 | tell=>exact absurd rfl b| send1=>exact absurd rfl b| send2=>exact absurd rfl b
theorem QlW {S S':Us} {t:Nat} {x:Int} (h:Zt S) (s:J1 S t x S') (d:QbT S t):x≠0:=by
 generalize D:(t:Int)=q at s;have g:∀ {α:Type} {l:List α} {a:α},l[0]?=some a->l≠[]:=λh e=>by rw [e] at h;cases h
 cases s with
 | took r G lv bv u c =>
  have:t=0:=by omega
  subst this;have:=d.1;rw [u,ZX,if_pos c] at this;omega
 | com E lv y hb F =>
  have:t=0:=by omega
  subst this;rw [d.2] at hb;cases hb
 | wait=>omega| done=>omega| hold=>omega
 | tell i k a ao v c f z =>
  have:t=i+1:=by omega
  subst this;rcases d k c with e|⟨b,hb,j,m⟩
  ·exact absurd e (g f)
  rw [f] at hb;cases hb;omega
 | send1 i k a hb c n f z =>
  have:t=i+1:=by omega
  subst this;rcases d k c with e|⟨b,hb,j,m⟩
  ·exact absurd e (g f)
  rw [f] at hb;cases hb;omega
 | send2 i k r p ao v c n y B C =>
  have:t=i+1:=by omega
  subst this;obtain ⟨A,o,_⟩:=(h.task i k c).half r n;rcases d k c with e|⟨b,hb,j,m⟩
  ·exact absurd e (g o)
  rw [o] at hb;cases hb;have:=A.2.1;omega
theorem Qkv {S:Us} (h:Zt S) (g:∀ t,t<S.T.length+1->QbT S t):(∀ (i:Nat) t,S.T[i]?=some t->t.acts=[])/\S.bt=[]/\ZX S.tn S.lk=0/\Zg S.cm=S.gv:=by
 obtain ⟨j,hb⟩:=g 0 (by omega);have f:=h.batch;rw [hb] at f;have f:0=S.tn-Zg S.cm:=f;have key:S.gv<=S.tn:=by
  rcases Int.lt_or_le S.tn S.gv with q|q
  ·exfalso;rcases h.all (S.tn+1) (by omega) (by omega) with ⟨s,c,e⟩|⟨i,t,x,a,n,e⟩
   ·cases d:S.lk with
    | nil=>rw [d] at c;cases c
    | cons z v =>
     rw [d,ZX] at j;have u:=(h.lk z (by rw [d];exact mem_cons_self ..)).2.1;have l:=h.ups;rw [d] at l c;have:z.t=S.tn+1:=by
      rcases mem_cons.1 c with rfl|c
      ·exact e
      have:=(pairwise_cons.1 l).1 s c;omega
     rw [if_pos this] at j;omega
   obtain ⟨o,k,_⟩:=(h.task i t a).half x n;have m:=(List.getElem?_eq_some_iff.1 a).1;rcases g (i+1) (by omega) t a with e|⟨b,hb,p,r⟩
   ·rw [e] at k;cases k
   rw [k] at hb;cases hb;have:=o.2.1;omega
  exact q
 refine ⟨λi t a=>?_,hb,j,by have:=h.tngv;omega⟩;have m:=(List.getElem?_eq_some_iff.1 a).1;rcases g (i+1) (by omega) t a with e|⟨b,hb,p,r⟩
 ·exact e
 have:=(h.task i t a).sent;omega
def Ph (n a i:Nat) (S:Us):Prop:=S.M<=192/\(a<=i->(∀ t,t<n+1->QbT S t) \/ ∃ r,r<n+1/\r+a<=i/\(∀ j,i<=j+r->j<i->QbT S (j % (n+1)))/\S.M*(n+1)+(n+1-r)+(i-a)<=965)
theorem QbT.lv {S:Us} {t:Nat} (h:QbT S t) (lv:Value):QbT { S with lv:=lv } t:=by cases t with|zero=>exact h|succ i=>exact h
theorem Ph.start {n a i:Nat} {S:Us} (h:S.M<=192) (b:i<=a) (c:n<=4):Ph n a i S:=by refine ⟨h,λd=>.inr ⟨0,by omega,by omega,λj f g=>by omega,?_⟩⟩;have:S.M*(n+1)<=192*5:=Nat.mul_le_mul h (by omega);omega
theorem Ph.step {n b i t:Nat} {S S':Us} {x:Int} (h:Zt S) (p:Ph n b i S) (I:S.T.length=n) (s:J1 S t x S') (f:t<n+1) (u:b<=i->t=i % (n+1)):Ph n b (i+1) S':=by
 have G:=h.n4;by_cases g:x=0
 ·have v:=Qpi h s g;rcases Nat.lt_or_ge i b with q|q
  ·exact Ph.start (by have:=p.1;omega) (by omega) (by omega)
  refine ⟨by have:=p.1;omega,λ_=>?_⟩;rcases p.2 q with e|⟨r,y,z,l,A⟩
  ·exact absurd g (QlW h s (e t f))
  refine .inr ⟨0,by omega,by omega,λj B C=>by omega,?_⟩;have:(S'.M+1)*(n+1)<=S.M*(n+1):=Nat.mul_le_mul_right _ v;rw [Nat.add_mul] at this;omega
 obtain ⟨_,D,lv,rfl⟩:=Qj6 s g;have E:Us.M { S with lv:=lv }=S.M:=rfl;rcases Nat.lt_or_ge i b with q|q
 ·exact Ph.start (by have:=p.1;omega) (by omega) (by omega)
 refine ⟨by have:=p.1;omega,λ_=>?_⟩;rcases p.2 q with e|⟨r,y,z,l,A⟩
 ·exact .inl λt f=>(e t f).lv lv
 have c:∀ j,i+1<=j+(r+1)->j<i+1->QbT { S with lv:=lv } (j % (n+1)):=λj B C=>by
  rcases Nat.lt_or_ge j i with e|e
  ·exact (l j (by omega) e).lv lv
  have:j=i:=by omega
  subst this;rw [<- u q];exact D.lv lv
 by_cases F:r+1<n+1
 ·exact .inr ⟨r+1,F,by omega,c,by rw [E];omega⟩
 refine .inl λa k=>?_; -- one of the last n+1 numbers has the rest a
 have m:=Nat.div_add_mod i (n+1);have J:i % (n+1)<n+1:=Nat.mod_lt _ (by omega);by_cases H:a<=i % (n+1)
 ·have:=c (i-(i % (n+1)-a)) (by omega) (by omega);rwa [show (i-(i % (n+1)-a)) % (n+1)=a by rw [show i-(i % (n+1)-a)=a+(n+1)*(i / (n+1)) by omega,Nat.add_mul_mod_self_left,Nat.mod_eq_of_lt k]] at this
 have o:0<i / (n+1):=by
  rcases Nat.eq_zero_or_pos (i / (n+1)) with e|e
  ·rw [e,Nat.mul_zero] at m;omega
  exact e
 obtain ⟨d,o⟩:∃ d,i / (n+1)=d+1:=⟨i / (n+1)-1,by omega⟩;rw [o,Nat.mul_add,Nat.mul_one] at m;have:=c (a+(n+1)*d) (by omega) (by omega);rwa [Nat.add_mul_mod_self_left,Nat.mod_eq_of_lt k] at this
theorem Ph.end {n a:Nat} {S:Us} (p:Ph n a (a+1500) S):∀ t,t<n+1->QbT S t:=by
 rcases p.2 (by omega) with e|⟨r,_,_,_,b⟩
 ·exact e
 omega
structure Jw (A:List (List Ac)) (S:Us) (sn:List Int) (dn:List Nat) (hf:List Bool):Prop where
 n:S.T.length=A.length
 l1:sn.length=A.length+1
 l2:dn.length=A.length+1
 l3:hf.length=A.length+1
 each:∀ i t,S.T[i]?=some t->∃ qs d,A[i]?=some qs/\dn[i+1]?=some d/\t.acts=qs.drop d/\sn[i+1]?=some t.sent/\hf[i+1]?=some t.half.isSome
theorem Jw.same {A:List (List Ac)} {S S':Us} {a:List Int} {b:List Nat} {c:List Bool} (h:Jw A S a b c) (e:S'.T=S.T):Jw A S' a b c:=⟨by rw [e];exact h.n,h.l1,h.l2,h.l3,λi t d=>h.each i t (by rw [<- e];exact d)⟩
theorem Jw.set {A:List (List Ac)} {S S':Us} {g:List Int} {k:List Nat} {l:List Bool} (h:Jw A S g k l) {i:Nat} {t a:Tk} (m:S.T[i]?=some t) (e:S'.T=S.T.set i a) {c:List Ac} (o:A[i]?=some c) (d:Nat) (p:a.acts=c.drop d):Jw A S' (g.set (i+1) a.sent) (k.set (i+1) d) (l.set (i+1) a.half.isSome):=by
 have y:=(List.getElem?_eq_some_iff.1 m).1;have q:=h.n;have r:=h.l1;have u:=h.l2;have v:=h.l3;refine ⟨by rw [e,length_set];exact q,by rw [length_set];exact r,by rw [length_set];exact u,by rw [length_set];exact v,λj s b=>?_⟩;rw [e] at b;rcases Qal m b with ⟨rfl,rfl⟩|⟨x,b⟩
 ·exact ⟨c,d,o,getElem?_set_self (by omega),p,getElem?_set_self (by omega),getElem?_set_self (by omega)⟩
 have f:i+1≠j+1:=by omega
 rw [getElem?_set_ne f,getElem?_set_ne f,getElem?_set_ne f];exact h.each j s b
theorem Qfl {α:Type}:∀ (l:List α) (i:Nat) (a:α),l[i]?=some a->l.set i a=l| [],i,a,h=>by simp| b::l,0,a,h=>by simp at h;simp [h]| b::l,i+1,a,h=>by simp only [set_cons_succ,Qfl l i a (by simpa using h)]
theorem QiH {α:Type} {l:List α} {d:Nat} {a:α} (h:(l.drop d)[0]?=some a):l[d]?=some a:=by rw [getElem?_drop] at h;exact h
theorem Qmf {α:Type} (l:List α) (d:Nat):(l.drop d).tail=l.drop (d+1):=by rw [List.tail_drop]
theorem QsR {A:List (List Ac)} {S S':Us} {f:List Int} {r:List Nat} {o:List Bool} (b:Jw A S f r o) (h:Zt S) {i:Nat} {t x:Int} (s:J1 S t x S') (K:t=i+1) (L:x=0):∃ g d a u,A[i]?=some g/\r[i+1]?=some d/\g[d]?=some a/\S.T[i]?=some u/\f[i+1]?=some u.sent/\o[i+1]?=some u.half.isSome /\ ((a.kd=8 \/ a.kd=9)/\(∃ l e,S'.ev=l++[e]/\e.tk=(i:Int)+1/\e.kd=a.kd/\(a.kd=8->u.sent<=e.up))/\S'.gv=S.gv/\Jw A S' f (r.set (i+1) (d+1)) o \/ (a.kd≠8/\a.kd≠9)/\u.half=none/\S'.gv=S.gv+1/\Jw A S' (f.set (i+1) (S.gv+1)) r (o.set (i+1) true) \/ (a.kd≠8/\a.kd≠9)/\u.half.isSome=true/\S'.gv=S.gv/\Jw A S' f (r.set (i+1) (d+1)) (o.set (i+1) false)):=by
 cases s with
 | took=>omega| com=>omega| wait=>omega| done=>omega| hold=>omega
 | tell j k a ao v c B F =>
  have:j=i:=by omega
  subst this;obtain ⟨g,d,m,y,n,q,z⟩:=b.each j k c;have M:=h.task j k c;rw [n] at B;refine ⟨g,d,a,k,m,y,QiH B,c,q,z,.inl ⟨by omega,⟨S.ev,_,rfl,rfl,rfl,λN=>?_⟩,rfl,?_⟩⟩
  ·show k.sent<=Zg S.cm;omega
  have:=b.set (S':={ S with T:=S.T.set j (k.next ao),ev:=S.ev++[⟨j+1,a.kd,S.cm.length,Zg S.cm⟩],ve:=v }) c rfl m (d+1) (by show k.acts.tail=_;rw [n];exact Qmf _ _);rw [Qfl f _ _ (show f[j+1]?=some (k.next ao).sent from q),Qfl o _ _ (show o[j+1]?=some (k.next ao).half.isSome from z)] at this;exact this
 | send1 j k a hb c D B F =>
  have:j=i:=by omega
  subst this;obtain ⟨g,d,m,y,n,q,z⟩:=b.each j k c;rw [n] at B;refine ⟨g,d,a,k,m,y,QiH B,c,q,z,.inr (.inl ⟨F,D,rfl,?_⟩)⟩;have:=b.set (S':={ S with gv:=S.gv+1,T:=S.T.set j { k with half:=some ⟨a,S.gv+1,Qbj (Qh S.C) a⟩,sent:=S.gv+1,hb:=hb } }) c rfl m d n;rw [Qfl r _ _ y] at this;exact this
 | send2 j k E p ao v c D O I J =>
  have:j=i:=by omega
  subst this;obtain ⟨g,d,m,y,n,q,z⟩:=b.each j k c;obtain ⟨H,G,P,R⟩:=(h.task j k c).half E D;rw [n] at G;refine ⟨g,d,E.a,k,m,y,QiH G,c,q,z,.inr (.inr ⟨H.2.1,by rw [D];rfl,rfl,?_⟩)⟩;have:=b.set (S':={ S with lk:=S.lk.take p++[E]++S.lk.drop p,lv:=v,T:=S.T.set j (Tk.next { k with half:=none } ao) }) c rfl m (d+1) (by show k.acts.tail=_;rw [n];exact Qmf _ _);rw [Qfl f _ _ (show f[j+1]?=some (Tk.next { k with half:=none } ao).sent from q)] at this;exact this
theorem QsS {A:List (List Ac)} {S S':Us} {a:List Int} {c:List Nat} {d:List Bool} (b:Jw A S a c d) {t x:Int} (s:J1 S t x S') (g:t=0 \/ x≠0):Jw A S' a c d/\S'.gv=S.gv/\(x=0 \/ x=7 \/ x=8):=by
 cases s with
 | took=>exact ⟨b.same rfl,rfl,.inl rfl⟩| com h lv i hb f =>obtain ⟨j,k,np,l,L,rfl,_⟩:=f.ex;exact ⟨b.same rfl,rfl,.inl rfl⟩
 | wait=>exact ⟨b.same rfl,rfl,.inr (.inl rfl)⟩| done=>exact ⟨b,rfl,.inr (.inr rfl)⟩| hold=>exact ⟨b,rfl,.inr (.inl rfl)⟩| tell=>omega| send1=>omega| send2=>omega
def QcP (c:Nat) (w:World) (d:Option Addr) (b:List Ac):Prop:=∀ j a,b[j]?=some a->∃ g p,d=some ⟨g,p,none⟩/\g<c/\w.rangeAt g (p+j*6) a.cells
def JI (d:Nat) (w:World) (f:Option Addr) (A:List (List Ac)):Prop:=∀ i a,A[i]?=some a->∃ g p b c,f=some ⟨g,p,none⟩/\g<d/\w.cell? ⟨g,p+i,none⟩=some (.slice b a.length c)/\(b=none->a.length=0/\c=0)/\QcP d w b a
theorem QcP.keep {c:Nat} {w w':World} {i:Option Addr} {d:List Ac} (h:QcP c w i d) (hb:∀ b,b<c->w'.heap[b]?=w.heap[b]?):QcP c w' i d:=λj a k=>by obtain ⟨g,p,l,f,m⟩:=h j a k;exact ⟨g,p,l,f,λr v n=>(World.cell?_of_block (hb g f)).trans (m r v n)⟩
theorem JI.keep {a:Nat} {w w':World} {d:Option Addr} {A:List (List Ac)} (h:JI a w d A) (hb:∀ b,b<a->w'.heap[b]?=w.heap[b]?):JI a w' d A:=λi f j=>by obtain ⟨g,p,k,l,m,c,n,o,q⟩:=h i f j;exact ⟨g,p,k,l,m,c,(World.cell?_of_block (hb g c)).trans n,o,q.keep hb⟩
def Qaf (A:List (List Ac)):Bool:=decide (4<A.length)||A.any λq=>decide (12<q.length)
theorem QnT (a:Option Addr) (n c:Nat) (w:World) : Calls Tryz.prog 68 #[.slice a n c] w λe w'=>e=.returned (.bool (decide (12<n)))/\w'=w:=by
 by_cases h:12<n
 ·have b:decide ((12:Int)<(n:Int))=true:=decide_eq_true (by omega);rw [decide_eq_true h];go_enter Tryz.func68,Tryz.ntmps68;go_wp2;go_ret;exact ⟨rfl,rfl⟩
 have b:decide ((12:Int)<(n:Int))=false:=decide_eq_false (by omega);rw [decide_eq_false h];go_enter Tryz.func68,Tryz.ntmps68;go_wp2;go_ret;exact ⟨rfl,rfl⟩
theorem Qi2 (N:Nat) (ao:Option Addr) (n c:Nat) (A:List (List Ac)) (w:World) (C:n=A.length) (O:n<=1000000) (D:JI N w ao A) (k:Nat) (P:k<=n) (x:∀ j q,j<k->A[j]?=some q->¬ 12<q.length) (y:∀ q,A[k]?=some q->12<q.length) (r:Int) (E:(k<n->r=k)/\(¬ k<n->r=-1)) : Calls Tryz.prog 108 #[.slice ao n c,.func (.func 68) #[] #[]] w λe w'=>e=.returned (.int .i64 r)/\w'=w:=by
 have h:Hid (∀ v m d,Calls Tryz.prog 68 #[.slice v m d] w λe w'=>e=.returned (.bool (decide (12<m)))/\w'=w):=Qa λv m d=>QnT v m d w;have L:=Qa C;have l:=Qa D;have t:=Qa x;have u:=Qa y;have F:=Qa E;clear C D x y E;go_enter Tryz.func108,Tryz.ntmps108;go_wp2;go_loopw [8] (λi wr=>wr=w/\∃ j:Nat,j<=k/\i=.int .i64 j) (λi _=>n+1-(intOf i).toNat);·exact ⟨rfl,0,Nat.zero_le _,rfl⟩
 case round =>
  obtain ⟨rfl,j,R,rfl⟩:=hrel;by_cases z:j<n
  ·have o:j<A.length:=by rw [<- L.out];exact z
   obtain ⟨g,p,G,H,I,_,S,_,_⟩:=l.out j _ (getElem?_eq_getElem o);by_cases B:j=k
   ·have f:12<A[j].length:=u.out _ (by rw [<- B];exact getElem?_eq_getElem o);have a:=h.out G A[j].length H;rw [decide_eq_true f] at a;have s:=Qa a;have M:Hid (j<n):=Qa z;generalize A[j].length=m at *;subst I B;clear a l u t f h;go_wp2_with (first|(go_at_call 68;refine s.out.mono ?_;rintro e w1 ⟨rfl,b⟩;rw [b];clear b));go_ret;exact ⟨by rw [F.out.1 M.out];rfl,rfl⟩
   have f:¬ 12<A[j].length:=t.out j _ (by omega) (getElem?_eq_getElem o);have a:=h.out G A[j].length H;rw [decide_eq_false f] at a;have s:=Qa a;generalize A[j].length=m at *;subst I;clear a l f;go_wp2_with (first|(go_at_call 68;refine s.out.mono ?_;rintro e w1 ⟨rfl,b⟩;rw [b];clear b));go_roundw;·exact ⟨trivial,j+1,by omega,by go_num⟩
   simp [intOf];omega
  have J:Hid (¬ k<n):=Qa (by omega);have K:j=n:=by omega
  subst K;clear l u t h;go_wp2;go_ret;exact ⟨by rw [F.out.2 J.out];rfl,rfl⟩
theorem Qd5 {α:Type} (P:α->Prop) [DecidablePred P]:∀ (l:List α),∃ k,k<=l.length/\(∀ j q,j<k->l[j]?=some q->¬ P q)/\(∀ q,l[k]?=some q->P q)
 | []=>⟨0,Nat.le_refl _,λj q h=>absurd h (Nat.not_lt_zero _),λq h=>by simp at h⟩
 | a::l=>by
  by_cases h:P a
  ·exact ⟨0,Nat.zero_le _,λj q h=>absurd h (Nat.not_lt_zero _),λq b=>by simp at b;exact b▸h⟩
  obtain ⟨k,f,c,d⟩:=Qd5 P l;refine ⟨k+1,by simp;omega,λj q g b=>?_,λq b=>d q (by simpa using b)⟩;cases j with| zero=>simp at b;exact b▸h| succ j=>exact c j q (by omega) (by simpa using b)
theorem Qqc {α:Type} (P:α->Prop) [DecidablePred P] (l:List α) (k:Nat) (g:k<=l.length) (a:∀ j q,j<k->l[j]?=some q->¬ P q) (b:∀ q,l[k]?=some q->P q):(l.any λq=>decide (P q))=decide (k<l.length):=by
 rw [Bool.eq_iff_iff,any_eq_true,decide_eq_true_eq];constructor
 ·rintro ⟨q,c,d⟩;obtain ⟨j,f,rfl⟩:=getElem_of_mem c;rcases Nat.lt_or_ge j k with e|e
  ·exact absurd (of_decide_eq_true d) (a j _ e (getElem?_eq_getElem f))
  omega
 intro h;exact ⟨l[k],getElem_mem h,decide_eq_true (b _ (getElem?_eq_getElem h))⟩
theorem Qnl (l:Nat) (ao:Option Addr) (c:Nat) (A:List (List Ac)) (w:World) (m:A.length<=1000000) (i:JI l w ao A) : Calls Tryz.prog 67 #[.slice ao A.length c,.func (.func 68) #[] #[]] w λe w'=>e=.returned (.bool (A.any λq=>decide (12<q.length)))/\w'=w:=by
 obtain ⟨k,d,f,g⟩:=Qd5 (λq:List Ac=>12<q.length) A;rw [Qqc (λq:List Ac=>12<q.length) A k d f g];by_cases h:k<A.length
 ·have j:=Qa (Qi2 l ao A.length c A w rfl m i k d f g k ⟨λ_=>rfl,λq=>absurd h q⟩);rw [decide_eq_true h];clear h g f d i;have b:decide ((0:Int)<=(k:Int))=true:=decide_eq_true (by omega);go_enter Tryz.func67,Tryz.ntmps67;go_wp2_with (first|(go_at_call 108;refine j.out.mono ?_;rintro e w1 ⟨rfl,a⟩;rw [a];clear a));go_ret;exact ⟨rfl,rfl⟩
 have j:=Qa (Qi2 l ao A.length c A w rfl m i k d f g (-1) ⟨λq=>absurd q h,λ_=>rfl⟩);rw [decide_eq_false h];clear h g f d i;go_enter Tryz.func67,Tryz.ntmps67;go_wp2_with (first|(go_at_call 108;refine j.out.mono ?_;rintro e w1 ⟨rfl,a⟩;rw [a];clear a));go_ret;exact ⟨rfl,rfl⟩
theorem Qg8 (f:Nat) (ao:Option Addr) (c:Nat) (A:List (List Ac)) (w:World) (d:JI f w ao A) : Calls Tryz.prog 39 #[.slice ao A.length c] w λe w'=>e=.returned (.bool (Qaf A))/\w'=w:=by
 unfold Qaf;by_cases h:4<A.length
 ·rw [decide_eq_true h,Bool.true_or];have b:decide ((4:Int)<(A.length:Int))=true:=decide_eq_true (by omega);generalize A.length=n at *;go_enter Tryz.func39,Tryz.ntmps39;go_wp2;go_ret;exact ⟨rfl,rfl⟩
 have g:=Qa (Qnl f ao c A w (by omega) d);rw [decide_eq_false h,Bool.false_or];have b:decide ((4:Int)<(A.length:Int))=false:=decide_eq_false (by omega);generalize (A.any λq=>decide (12<q.length))=r at *;generalize A.length=n at *;clear d;go_enter Tryz.func39,Tryz.ntmps39;go_wp2_with (first|(go_at_call 67;refine g.out.mono ?_;rintro e w1 ⟨rfl,a⟩;rw [a];clear a));go_ret;exact ⟨rfl,rfl⟩
end Go.Proofs.YtobgcaemnpkbmaaGreatDoor
