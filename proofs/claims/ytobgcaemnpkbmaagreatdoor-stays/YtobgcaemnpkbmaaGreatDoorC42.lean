import Derived.Test.YtobgcaemnpkbmaaGreatDoorC41
namespace Go.Proofs.YtobgcaemnpkbmaaGreatDoor
set_option maxRecDepth 100000
set_option maxHeartbeats 8000000
open Go.RowKit List
def tkL (T:List Tk):List Value:=T.flatMap Tk.cells
theorem Qsh (T:List Tk) (t:Tk):tkL (T++[t])=tkL T++t.cells:=by unfold tkL;simp
theorem QjP:∀ (T:List Tk) (i r:Nat),r<3->(tkL T)[i*3+r]?=(T[i]?).bind λt=>t.cells[r]?| [],i,r,h=>by simp [tkL]| t::T,i,r,h=>by have e:tkL (t::T)=t.cells++tkL T:=rfl;have a:t.cells.length=3:=rfl;rw [e];cases i with| zero=>rw [getElem?_append_left (by omega)];simp| succ i =>rw [getElem?_append_right (by omega),a,show (i+1)*3+r-3=i*3+r by omega,QjP T i r h];simp
theorem QiS:∀ (q:List Ac) (i r:Nat) (a:Ac) (v:Value),q[i]?=some a->a.cells[r]?=some v->(acL q)[i*6+r]?=some v
 | [],i,r,a,v,h,_=>by simp at h
 | b::q,i,r,a,v,h,hv=>by
  have e:acL (b::q)=b.cells++acL q:=rfl;have c:b.cells.length=6:=rfl;have d:r<6:=(List.getElem?_eq_some_iff.1 hv).1;rw [e];cases i with
  | zero =>
   have:b=a:=by simpa using h
   rw [getElem?_append_left (by omega),this,Nat.zero_mul,Nat.zero_add];exact hv
  | succ i =>rw [getElem?_append_right (by omega),c,show (i+1)*6+r-6=i*6+r by omega];exact QiS q i r a v (by simpa using h) hv
structure Qcn (w:World) (A:List (List Ac)) (u m:Nat) (wr:World) (κ:Qu) (T:List Tk) (tv:Value):Prop where
 len:T.length=m
 each:∀ (j:Nat) t,T[j]?=some t->t.half=none/\t.sent=0/\A[j]?=some t.acts
 c0:wr.cell? ⟨u,0,none⟩=some tv
 cz:∀ j v,j≠0->Tryz.zeroCells110[j]?=some v->wr.cell? ⟨u,j,none⟩=some v
 froz:∀ j,wr.frozen? ⟨u,j,none⟩=false
 role:κ u=some 0
 row:wr.ownsRow 0 113 3 tv m (tkL T)
 trole:∀ b,tv.ownBlock=some b->κ b=some 1
 atT:∀ j t,T[j]?=some t->Qb9 κ wr j t
 low:∀ b,(κ b).isSome=true->w.heap.size<=b/\b<wr.heap.size
 few:∀ b r,κ b=some r->r=0 \/ r=1 \/ (10<=r/\r<10+m)
 bel:Below w.heap.size w wr
theorem Qcn.zero {w:World} {A:List (List Ac)} (wr:World) (hb:Below w.heap.size w wr):Qcn w A wr.heap.size 0 (wr.alloc (.cells Tryz.zeroCells110 110)) (λb=>if b=wr.heap.size then some 0 else none) [] (.slice none 0 0):=by
 have a:(wr.alloc (.cells Tryz.zeroCells110 110)).heap[wr.heap.size]?=some (.cells Tryz.zeroCells110 110 (0,0)):=heap_alloc_new wr _;have c:=hb.size;refine ⟨rfl,(λj t h=>by simp at h),Qf a 0 _ (by kernel_rfl),λj v _ h=>Qf a j v h,λj=>Jp a j,if_pos rfl,⟨rfl,.inl ⟨rfl,rfl⟩⟩,(λb e=>by cases e),(λj t h=>by simp at h),λb e=>?_,λb r e=>?_,hb.alloc c _⟩
 ·by_cases q:b=wr.heap.size
  ·subst q;simp;omega
  simp [q] at e
 by_cases q:b=wr.heap.size
 ·simp [q] at e;omega
 simp [q] at e
theorem Qcn.lt {w:World} {A:List (List Ac)} {u m:Nat} {wr:World} {a:Qu} {T:List Tk} {b:Value} (h:Qcn w A u m wr a T b):u<wr.heap.size:=(h.low u (by rw [h.role];rfl)).2
theorem Qcn.add {w:World} {A:List (List Ac)} {u m:Nat} {wr:World} {E:Qu} {T:List Tk} {F:Value} (h:Qcn w A u m wr E T F) (au:m<10) {q:List Ac} (af:A[m]?=some q) {a0:World} (ag:QjN u q F m (tkL T) wr a0):∃ s ah f,Qcn w A u (m+1) a0 s ah f:=by
 obtain ⟨J,w1,f,B,C,a1,a2,l,rfl⟩:=ag;have N:=QkZ a1;have y:Below wr.heap.size wr (w1.alloc (.cells #[J,.pointer none,.int .i64 0] 113)):=N.alloc N.size _;have ac:Below w1.heap.size w1 (w1.alloc (.cells #[J,.pointer none,.int .i64 0] 113)):=(Below.refl _ _).alloc (Nat.le_refl _) _;have ap:w1.heap.size<(w1.alloc (.cells #[J,.pointer none,.int .i64 0] 113)).heap.size:=by simp
 generalize w1.alloc (.cells #[J,.pointer none,.int .i64 0] 113)=w2 at *;have av:=N.size;have aw:=y.size;have ax:=l.size;have V:=h.lt;obtain ⟨z,n,rfl⟩:=Qz C;have H:∀ b,(Value.slice z q.length n).ownBlock=some b->b=wr.heap.size:=λb e=>by
  rcases a1.at with c|c
  ·rw [c] at e;cases e
  rw [c] at e;exact (Option.some.inj e).symm
 have I:∀ b,f.ownBlock=some b->F.ownBlock=some b \/ b=w2.heap.size:=λb e=>by
  rcases l.at with c|c
  ·rw [c] at e;exact .inl e
  rw [c] at e;exact .inr (Option.some.inj e).symm
 have W:F.ownBlock≠some u:=λe=>by have:=h.trole u e;rw [h.role] at this;cases this
 have ad:f.ownBlock≠some u:=λe=>by
  rcases I u e with e|e
  ·exact W e
  omega
 have G:∀ v,(B.setCell ⟨u,0,none⟩ v).heap.size=B.heap.size:=λv=>by simp [World.setCell]
 generalize K:(λb=>if (Value.slice z q.length n).ownBlock=some b then some (10+m) else if f.ownBlock=some b then some 1 else E b:Qu)=s;have a3:∀ b,(Value.slice z q.length n).ownBlock=some b->s b=some (10+m):=λb e=>by rw [<- K];exact if_pos e
 have P:∀ b,f.ownBlock=some b->s b=some 1:=λb e=>by
  rw [<- K];show (if _ then _ else if _ then _ else _)=_;rw [if_neg,if_pos e];intro c;have a4:=H b c;rcases I b e with D|D
  ·have:=(h.low b (by rw [h.trole b D];rfl)).2;omega
  omega
 have a5:∀ b,b<wr.heap.size->s b=E b:=λb hb=>by
  by_cases e:f.ownBlock=some b
  ·rw [P b e];rcases I b e with D|D
   ·exact (h.trole b D).symm
   omega
  rw [<- K];show (if _ then _ else if _ then _ else _)=_;rw [if_neg (λc=>by have:=H b c;omega),if_neg e]
 have a6:∀ b r,s b=some r->(r=10+m/\b=wr.heap.size) \/ (r=1/\f.ownBlock=some b) \/ E b=some r:=λb r e=>by
  by_cases o:(Value.slice z q.length n).ownBlock=some b
  ·rw [a3 b o] at e;exact .inl ⟨(Option.some.inj e).symm,H b o⟩
  by_cases c:f.ownBlock=some b
  ·rw [P b c] at e;exact .inr (.inl ⟨(Option.some.inj e).symm,c⟩)
  rw [<- K] at e;have e:(if _ then _ else if _ then _ else _)=_:=e;rw [if_neg o,if_neg c] at e;exact .inr (.inr e)
 have U:∀ b,(s b).isSome=true->w.heap.size<=b/\b<B.heap.size:=λb e=>by
  obtain ⟨r,a7⟩:=Option.isSome_iff_exists.1 e;have:=h.bel.size;rcases a6 b r a7 with ⟨_,c⟩|⟨_,c⟩|c
  ·omega
  ·have D:=(a2.lt b c).2;rcases I b c with a8|a8
   ·have:=(h.low b (by rw [h.trole b a8];rfl));omega
   omega
  have:=h.low b (by rw [c];rfl);omega
 have X:∀ b,b<wr.heap.size->b≠u->F.ownBlock≠some b->(B.setCell ⟨u,0,none⟩ f).heap[b]?=wr.heap[b]?:=λb hb ai aj=>by rw [Below.heap_setCell _ _ _ _ ai,l.by.block b (by omega) (λe=>aj e.symm)];exact y.block b hb
 have ak:Mv E s (λr=>r=0 \/ r=1) wr (B.setCell ⟨u,0,none⟩ f):=by refine ⟨⟨l.by.os.trans y.os,l.by.tape.trans y.tape,l.by.output.trans y.output,by rw [G];omega,λb hb a9=>X b hb (λe=>a9 ⟨0,by rw [e];exact h.role,.inl rfl⟩) (λe=>a9 ⟨1,h.trole b e,.inr rfl⟩)⟩,a5,λb e=>by rw [G];exact (U b e).2⟩
 have O:B.heap[u]?=wr.heap[u]?:=by rw [l.by.block u (by omega) (λe=>W e.symm)];exact y.block u V
 have aa:(B.setCell ⟨u,0,none⟩ f).ownsRow 0 113 3 f (m+1) (tkL T++[.slice z q.length n,.pointer none,.int .i64 0]):=QT a2 λb e=>Below.heap_setCell _ _ _ _ (λc=>ad (by rw [e];exact congrArg some c));have ab:∀ b,(Value.slice z q.length n).ownBlock=some b->(B.setCell ⟨u,0,none⟩ f).heap[b]?=w1.heap[b]?:=λb e=>by
  have c:=H b e;have a4:=(C.lt b e).2;rw [Below.heap_setCell _ _ _ _ (show b≠u by omega),l.by.block b (by omega) (λe=>?_)]
  ·exact ac.block b a4
  have:=(h.low b (by rw [h.trole b e.symm];rfl)).2;omega
 refine ⟨s,T++[⟨q,none,0,z,n,0⟩],f,by rw [length_append,h.len];rfl,λj t d=>?_,World.cell?_setCell_same _ _ _ ((World.cell?_of_block O).trans h.c0),λj v p L=>(Z8 _ _ _ _ _ p).trans ((World.cell?_of_block O).trans (h.cz j v p L)),λj=>(World.frozen?_setCell ..).trans ((World.frozen?_of_block O).trans (h.froz j)),(a5 u V).trans h.role,?_,P,λj t d=>?_,λb e=>by rw [G];exact U b e,λb r e=>?_,?_⟩
 ·rcases Nat.lt_or_ge j m with p|p
  ·rw [getElem?_append_left (by rw [h.len];exact p)] at d;exact h.each j t d
  rw [getElem?_append_right (by rw [h.len];exact p),h.len] at d;have:j-m=0:=by
   rcases Nat.eq_zero_or_pos (j-m) with e|e
   ·exact e
   obtain ⟨k,R⟩:∃ k,j-m=k+1:=⟨j-m-1,by omega⟩;rw [R] at d;simp at d
  rw [this] at d;have d:(⟨q,none,0,z,n,0⟩:Tk)=t:=by simpa using d
  subst d;exact ⟨rfl,rfl,by rw [show j=m by omega];exact af⟩
 ·rw [Qsh];exact aa
 ·rcases Nat.lt_or_ge j m with p|p
  ·rw [getElem?_append_left (by rw [h.len];exact p)] at d;exact (h.atT j t d).mv ak (λb e=>(h.low b e).2) (by omega) (by omega)
  rw [getElem?_append_right (by rw [h.len];exact p),h.len] at d;have al:j-m=0:=by
   rcases Nat.eq_zero_or_pos (j-m) with e|e
   ·exact e
   obtain ⟨k,R⟩:∃ k,j-m=k+1:=⟨j-m-1,by omega⟩;rw [R] at d;simp at d
  rw [al] at d;have d:(⟨q,none,0,z,n,0⟩:Tk)=t:=by simpa using d
  subst d;have ae:j=m:=by omega
  subst ae;refine ⟨λi a M=>?_,?_,?_,λx ao=>by cases ao⟩
  ·rcases C.2 with ⟨_,S⟩|⟨g,cap,Y,e,_⟩
   ·rw [length_eq_zero_iff.1 S] at M;simp at M
   obtain ⟨rfl,_,rfl⟩:=Value.slice.inj e;have aq:i<q.length:=(List.getElem?_eq_some_iff.1 M).1;refine ⟨g,0,rfl,a3 g rfl,λr v L=>?_⟩;have a7:r<6:=(List.getElem?_eq_some_iff.1 L).1;rw [World.cell?_of_block (ab g rfl),Nat.zero_add,C.cellAt (i*6+r) (by omega)];exact QiS q i r a v M L
  ·rcases C.2 with ⟨e,S⟩|⟨g,cap,Y,e,_,_,o,_⟩
   ·show q.length<=n;omega
   obtain ⟨_,_,rfl⟩:=Value.slice.inj e;exact o
  rcases C.2 with ⟨e,S⟩|⟨g,cap,Y,e,_,_,o,c,_⟩
  ·obtain ⟨_,_,rfl⟩:=Value.slice.inj e;show 0<=_;omega
  obtain ⟨_,_,rfl⟩:=Value.slice.inj e;exact Nat.le_trans c (by unfold maxLen;omega)
 ·rcases a6 b r e with ⟨o,_⟩|⟨o,_⟩|o
  ·omega
  ·omega
  have:=h.few b r o;omega
 have ar:=h.bel.size;refine ⟨(l.by.os.trans y.os).trans h.bel.os,(l.by.tape.trans y.tape).trans h.bel.tape,(l.by.output.trans y.output).trans h.bel.output,by rw [G];omega,λb hb=>(X b (by omega) (λe=>?_) (λe=>?_)).trans (h.bel.block b hb)⟩
 ·have:=(h.low u (by rw [h.role];rfl)).1;omega
 have:=(h.low b (by rw [h.trole b e];rfl)).1;omega
def cmZ:Nat->Cm:=λ_=>⟨false,0,0,0,0,0,none,0,0,[]⟩
theorem Qte:(Tryz.zeroCells110.toList.drop 5).take 147=QaC cmZ 21:=by kernel_rfl
theorem Qje (j:Nat) (v:Value) (h:(QaC cmZ 21)[j]?=some v):Tryz.zeroCells110[5+j]?=some v:=by
 rw [<- Qte,getElem?_take] at h;split at h
 ·rw [getElem?_drop,Array.getElem?_toList] at h;exact h
 cases h
theorem QhX:Qg 0:=⟨by decide,by decide⟩
theorem Qf6:QY 0 (Qh cmZ):=by refine ⟨rfl,λ_ _=>rfl,λ_=>⟨Int.le_refl _,Int.le_refl _⟩,λ_=>Nat.zero_le _,λ_=>List.Pairwise.nil,(λi x a=>by cases a),λ_=>⟨QhX,QhX,QhX⟩,λ_=>0,⟨(λi h=>by cases h),(λi h=>by cases h)⟩⟩
theorem QgD (f:Tk->Nat) (k:Nat):∀ (T:List Tk),(∀ t,t ∈ T->f t<=k)->Z6 f T<=T.length*k| [],_=>by simp [Z6]| t::T,h=>by have b:=h t (mem_cons_self ..);have c:=QgD f k T λt a=>h t (mem_cons_of_mem _ a);have e:Z6 f (t::T)=f t+Z6 f T:=rfl;rw [e,length_cons,Nat.add_mul];omega
structure QhU (w:World) (A:List (List Ac)) (u:Nat) (w':World) (κ:Qu) (S:Us):Prop where
 ui:QA κ w' u S
 ok:Zt S
 book:Jw A S (List.replicate (A.length+1) 0) (List.replicate (A.length+1) 0) (List.replicate (A.length+1) false)
 gv:S.gv=0
 few:S.M<=192
 bel:Below w.heap.size w w'
 new:∀ b,b<w.heap.size->κ b=none
theorem Qt7 (ab:Nat) (ao:Option Addr) (c:Nat) (A:List (List Ac)) (w:World) (aR:ab<=w.heap.size) (aS:JI ab w ao A) (I:Qaf A=false) (ac:∀ (j:Nat) q,A[j]?=some q->Qbw q=true) (aT:∀ (j:Nat) q a,A[j]?=some q->a ∈ q->Qg a.n) (R:Gl w) : Calls Tryz.prog 23 #[.slice ao A.length c] w λe w'=>∃ u:Nat,e=.returned (.tuple #[.pointer (some ⟨u,0,none⟩),.int .i64 0,.int .i64 0])/\∃ f S,QhU w A u w' f S:=by
 unfold Qaf at I;rw [Bool.or_eq_false_iff] at I;have aU:A.length<=4:=by have:=of_decide_eq_false I.1;omega
 have ah:∀ (j:Nat) (q:List Ac),A[j]?=some q->q.length<=12:=λj q M=>by have:=List.any_eq_false.1 I.2 q (mem_of_getElem? M);simpa using this
 refine Qs6 ab ao A.length c A w rfl aR aS (by unfold Qaf;rw [I.1,I.2];rfl) aU ah ac (λu w'=>∃ f S,QhU w A u w' f S) (λu m wr=>∃ f T a4,Qcn w A u m wr f T a4) (Qa λwr hb=>⟨_,_,_,Qcn.zero wr hb⟩) (Qa ?_) (Qa ?_)
 ·rintro u m wr q ⟨f,T,a4,h⟩ M;have bc:=(List.getElem?_eq_some_iff.1 M).1;obtain ⟨aV,aW,y⟩:=Qz h.row;refine ⟨aV,aW,tkL T,by rw [<- y];exact h.c0,h.froz 0,h.lt,by rw [<- y];exact h.row,λe=>?_,λb hb=>h.bel.block b (by omega),λbm N=>h.add (by omega) M (by rw [<- y] at N;exact N)⟩;have:=h.trole u (by rw [y];exact e);rw [h.role] at this;cases this
 rintro u wr ⟨f,T,a4,h⟩;have U:=h.lt;have aI:=h.bel.size;refine ⟨h.cz 154 _ (by omega) (by kernel_rfl),λY W=>?_⟩;have aJ:Below w.heap.size w Y:=h.bel.trans (W.mono aI);have aX:=W.size;have aC:QaF Y u 5 cmZ:=λj v z=>(W.cell (p:=⟨u,5+j,none⟩) U).trans (h.cz (5+j) v (by omega) (Qje j v z));have aB:Qct Y u 5 cmZ:=⟨aC,by omega,λk _=>⟨(λj x l=>by simp [cmZ] at l),rfl⟩,(λk a _ e=>by cases e),R.below aJ⟩;refine (Qkl u 5 cmZ Qf6 0 ⟨by decide,by decide⟩ Y aB).mono ?_;rintro e w2 ⟨q,B,rfl,a5,a6,ai⟩;obtain ⟨au,a7,rfl⟩:=Qz a5.row;have a8:QcR (ZO B) (QJ (Qh cmZ) 0):=QlJ a6 λn aY=>(a5.node n aY).an;have aK:B.length=(QJ (Qh cmZ) 0).length:=by rw [<- a6,length_map]
 have bd:=Qd9 Qf6 0;have K:0<(QJ (Qh cmZ) 0).length:=by unfold QJ;simp
 have P:=Qid Qf6 (v:=0) ⟨by decide,by decide⟩ a8;have aD:∀ x,x ∈ B->x.ats.length<=5:=λx l=>by
  obtain ⟨i,X,rfl⟩:=getElem_of_mem l;have aj:i<(QJ (Qh cmZ) 0).length:=by omega
  have:=(Qa0 (Qat (P i aj))).1;rw [(a8 i aj).2.2.2.2.1] at this;have E:(QJ (Qh cmZ) 0)[i]=(B[i]).pn:=by simp only [<- a6,getElem_map]
  rw [E] at this;exact this
 have a0:=a5.listK rfl (by omega) aD;refine ⟨au,B.length,a7,rfl,?_⟩;rw [aK] at a0 ⊢;obtain ⟨b,ba,aL,aA⟩:=a0 K;have av:=QgK au _ a7 (ZO B) w2 (by unfold maxLen;omega) a0;rw [Qll K (by omega) P] at av;subst aL;refine (Qmr b ba _ a7 (ZO B) w2 K (by omega) aA (QdY.of K P) (Qa av)).mono ?_;rintro e o ⟨F,nb,aZ,q,rfl,M,ak,ad,al⟩;have bf:=ai.size;have bg:=al.size;have hb:Below wr.heap.size wr o:=W.trans ((ai.mono aX).trans (al.mono (by omega)));have ap:∀ j,o.cell? ⟨u,j,none⟩=wr.cell? ⟨u,j,none⟩:=λj=>hb.cell (p:=⟨u,j,none⟩) U;have aq:∀ j,o.frozen? ⟨u,j,none⟩=false:=λj=>(hb.frozen (p:=⟨u,j,none⟩) U).trans (h.froz j);have ae:=(ap 152).trans (h.cz 152 (.pointer none) (by omega) (by kernel_rfl));refine ⟨q,rfl,⟨_,ae⟩,aq 152,?_⟩; -- the UI
 have aE:∀ b,(f b).isSome=true->b<wr.heap.size:=λb e=>(h.low b e).2;have aF:∀ b,(F b).isSome=true->b<o.heap.size:=λb e=>ad.low b e;have aG:∀ b,(F b).isSome=true->b≠u:=λb e E=>by have:=ak b e;omega
 obtain ⟨tao,tc,y⟩:=Qz h.row;have bh:(o.setCell ⟨u,152,none⟩ (.pointer (some ⟨q,0,none⟩))).heap.size=o.heap.size:=by simp [World.setCell]
 have J:Qx (λx=>x=u) o (o.setCell ⟨u,152,none⟩ (.pointer (some ⟨q,0,none⟩))):=(Qx.of_below (S:=λx=>x=u) (Below.refl o.heap.size o)).set (.inl (show u=u from rfl)) _;have aw:∀ j,j≠152->(o.setCell ⟨u,152,none⟩ (.pointer (some ⟨q,0,none⟩))).cell? ⟨u,j,none⟩=wr.cell? ⟨u,j,none⟩:=λj ax=>(Z8 _ _ _ _ _ ax).trans (ap j);have b0:∀ j,(o.setCell ⟨u,152,none⟩ (.pointer (some ⟨q,0,none⟩))).frozen? ⟨u,j,none⟩=false:=λj=>(World.frozen?_setCell ..).trans (aq j);have b1:(o.setCell ⟨u,152,none⟩ (.pointer (some ⟨q,0,none⟩))).cell? ⟨u,152,none⟩=some (.pointer (some ⟨q,0,none⟩)):=World.cell?_setCell_same _ _ _ ae;generalize o.setCell ⟨u,152,none⟩ (.pointer (some ⟨q,0,none⟩))=O at *;have m:Mv f (λb=>if b<wr.heap.size then f b else if (F b).isSome then some 100 else none) (λr=>r=0) wr O:=by
  refine ⟨((Qx.of_below hb).trans (J.mono λb _ e=>?_)),λb hb=>if_pos hb,λb e=>?_⟩
  ·exact .inl ⟨0,by rw [e];exact h.role,rfl⟩
  by_cases aM:b<wr.heap.size
  ·omega
  simp only [if_neg aM] at e;by_cases E:(F b).isSome=true
  ·have:=aF b E;omega
  rw [if_neg E] at e;cases e
 have af:Below w.heap.size w O:=by have:=(h.low u (by rw [h.role];rfl)).1;refine ⟨(J.os.trans hb.os).trans h.bel.os,(J.tape.trans hb.tape).trans h.bel.tape,(J.output.trans hb.output).trans h.bel.output,by omega,λb V=>?_⟩;rw [J.block b (by omega) (by omega),hb.block b (by omega)];exact h.bel.block b V
 have aH:∀ b,b<w.heap.size->f b=none:=λb V=>by cases e:f b with| none=>rfl| some r=>have:=(h.low b (by rw [e];rfl)).1;omega
 have a2:∀ b,b<w.heap.size->(if b<wr.heap.size then f b else if (F b).isSome then some 100 else none)=none:=λb V=>by rw [if_pos (by omega)];exact aH b V
 have b2:=R.two; -- the tasks
 obtain ⟨tg,aN,aO⟩:∃ tg,(0<T.length->tao=some ⟨tg,0,none⟩)/\QcE f wr tg T:=by
  rcases h.row.2 with ⟨e,b3⟩|⟨g,cap,bi,e,_,b4,_⟩
  ·have aP:T=[]:=length_eq_zero_iff.1 (by rw [h.len];exact b3);subst aP;exact ⟨0,λe=>absurd e (Nat.lt_irrefl _),λe=>absurd e (Nat.lt_irrefl _),(λi t e=>by simp at e),λe=>absurd e (Nat.lt_irrefl _),(λi t e=>by simp at e)⟩
  rw [y] at e;obtain ⟨rfl,_,_⟩:=Value.slice.inj e;refine ⟨g,λ_=>rfl,λ_=>h.trole g (by rw [y];rfl),λi t d r v z=>?_,λ_ j=>Jp b4 j,h.atT⟩;have X:=(List.getElem?_eq_some_iff.1 d).1;have b5:r<3:=(List.getElem?_eq_some_iff.1 z).1;have ag:=h.row;rw [y] at ag;have bn:=h.len;rw [ag.cellAt (i*3+r) (by omega),QjP T i r b5,d];exact z
 have ar:T.length=A.length:=h.len;have G:∀ j v,j≠0->j≠152->Tryz.zeroCells110[j]?=some v->O.cell? ⟨u,j,none⟩=some v:=λj v b6 b7 z=>(aw j b7).trans (h.cz j v b6 z);have L:∀ (e:TypeId) (k:Nat),O.ownsRow 0 e k (.slice none 0 0) 0 []:=λe k=>⟨by simp,.inl ⟨rfl,rfl⟩⟩;have aQ:QA (λb=>if b<wr.heap.size then f b else if (F b).isSome then some 100 else none) O u { T:=T,tao:=tao,tg:=tg,tc:=tc,gv:=0,tn:=0,lk:=[],lv:=.slice none 0 0,bt:=[],bv:=.slice none 0 0,C:=cmZ,D:=⟨F,nb,aZ,q,QC (ZO B) (QJ (Qh cmZ) 0).length,(QJ (Qh cmZ) 0).length⟩,ev:=[],ve:=.slice none 0 0,cm:=[],vc:=.slice none 0 0 }:=by
  refine ⟨?_,aN,G 1 _ (by omega) (by omega) (by kernel_rfl),G 2 _ (by omega) (by omega) (by kernel_rfl),G 3 _ (by omega) (by omega) (by kernel_rfl),G 4 _ (by omega) (by omega) (by kernel_rfl),b1,G 153 _ (by omega) (by omega) (by kernel_rfl),G 154 _ (by omega) (by omega) (by kernel_rfl),⟨λj v z=>?_,b0,by omega,(m.old u U).trans h.role,λk _=>L _ _,(λk g _ e=>by cases e),m.low⟩,aO.mv m aE (by omega) (by intro r _ _;omega) (by omega),⟨L _ _,λb e=>by cases e⟩,⟨L _ _,λb e=>by cases e⟩,⟨L _ _,λb e=>by cases e⟩,⟨L _ _,λb e=>by cases e⟩,⟨ad.touch J aG,λb e=>?_⟩,R.below af,a2 0 R.pos,a2 1 b2⟩
  ·rw [ar,<- y,aw 0 (by omega)];exact h.c0
  ·have ax:j<147:=by have:=(List.getElem?_eq_some_iff.1 z).1;rw [Qcx] at this;exact this
   exact G (5+j) v (by omega) (by omega) (Qje j v z)
  show (if b<wr.heap.size then f b else if (F b).isSome then some 100 else none)=some 100;have:=ak b e;rw [if_neg (by omega),if_pos e]
 have H:=h.each;have a3:∀ t,t ∈ T->t.half=none/\t.sent=0/\t.acts.length<=12:=λt d=>by obtain ⟨i,X,rfl⟩:=getElem_of_mem d;obtain ⟨a9,E,aa⟩:=H i _ (getElem?_eq_getElem X);exact ⟨a9,E,ah i _ aa⟩
 have bj:=QgD Tk.to 12 T λt d=>by unfold Tk.to;have:=(a3 t d).2.2;omega
 have bk:=QgD (λt=>t.acts.length) 12 T λt d=>(a3 t d).2.2;have bl:=QgD mT 48 T λt d=>by unfold mT;have:=(a3 t d).2.2;omega
 have a1:∀ (i:Nat) t x,T[i]?=some t->t.half=some x->False:=λi t x d l=>by rw [(H i t d).1] at l;cases l
 refine ⟨_,_,aQ,?_,?_,rfl,?_,af,a2⟩
 ·refine ⟨by show T.length<=4;omega,λi t d=>⟨λa N=>⟨?_,aT i _ a (H i t d).2.2 N⟩,by rw [(H i t d).2.1];exact ⟨Int.le_refl _,Int.le_refl _⟩,λx l=>(a1 i t x d l).elim⟩,λi j t s x bb d _ l=>(a1 i t x d l).elim,List.Pairwise.nil,(λx l=>by cases l),(λi t x bb d l=>(a1 i t x d l).elim),λk ay az=>?_,(λx l=>by cases l),rfl,Int.le_refl _,Int.le_refl _,?_,?_,Qf6,⟨ZO B,Qq0 K P,a8⟩,?_,Int.le_refl _,List.Pairwise.nil,(λc b8=>by cases b8),(λe b9=>by cases b9),List.Pairwise.nil⟩
  ·have:=ac i _ (H i t d).2.2;unfold Qbw at this;exact all_eq_true.1 this a N
  ·have ay:(0:Int)<k:=ay;have az:k<=(0:Int):=az;omega
  ·show (0:Int)+(Z6 Tk.to T:Nat)<=48;omega
  ·show 0+Z6 (λt=>t.acts.length) T<=48;omega
  show (((QJ (Qh cmZ) 0).length:Nat):Int)<=400*((0:Nat)+1);omega
 ·refine ⟨ar,length_replicate,length_replicate,length_replicate,λi t d=>?_⟩;have X:i<T.length:=(List.getElem?_eq_some_iff.1 d).1;obtain ⟨a9,E,aa⟩:=H i t d;refine ⟨t.acts,0,aa,?_,rfl,?_,?_⟩
  ·rw [List.getElem?_replicate,if_pos (by omega)]
  ·rw [List.getElem?_replicate,if_pos (by omega),E]
  rw [List.getElem?_replicate,if_pos (by omega),a9];rfl
 show Z6 mT T+2*0+0<=192;omega
theorem QrW (J:Nat) (ao:Option Addr) (n c:Nat) (xs:List Value) (w:World) (h:w.ownsRow J 38 4 (.slice ao n c) n xs) (L:n<=1000000) (f:∀ u ∈ xs,u.oneCell'=true) : Calls Tryz.prog 46 #[.slice ao n c] w λe w'=>∃ q,e=.returned q/\w'.ownsRow w.heap.size 38 4 q n xs/\Below w.heap.size w w':=by
 obtain ⟨D,E,v,x,y⟩:=info_parts Qj8;have K:∀ w a l c,(binOp .eql 35 (.slice a l c) (.slice none 0 0)).run Tryz.prog w=.ok (.bool a.isNone) w:=λw a l c => Lib.run_eql_slice_nil (P:=Tryz.prog) w 35 38 a l c 0 0 Tryz.underlying35;have o:xs.length=n*4:=h.1;cases ao with
 | none =>
  have F:n=0:=by
   rcases h.2 with ⟨_,e⟩|⟨g,cap,z,e,_⟩
   ·exact e
   simp at e
  subst F;have A:xs=[]:=eq_nil_of_length_eq_zero (by omega);subst A;clear h f;go_enter Tryz.func46,Tryz.ntmps46;go_wp2;go_ret;exact ⟨_,rfl,World.ownsRow_nil _ _ _ _,Below.refl _ _⟩
 | some p =>
  have R:=Qa h;have m:∀ a,some p=some a->∀ j u,xs[j]?=some u->∀ k,(w.alloc k).cell? (a.add j)=some u:=λa i j u d k=>by
   cases i;have M:j<xs.length:=(List.getElem?_eq_some_iff.1 d).1;rcases h.2 with ⟨e,_⟩|⟨g,cap,z,e,_,G,_⟩
   ·cases e
   cases e;rw [QdW,World.cell?_alloc_lt w k ⟨g,0+j,none⟩ (QN G),Nat.zero_add,h.cellAt j (by omega)];exact d
  have H:=Qa m;have t:=Qa f;have I:=Qa o;clear h m f o;go_enter Tryz.func46,Tryz.ntmps46;have r:Hid ((w.alloc (.cells #[] 38)).ownsRow w.heap.size 38 4 (.slice (some ⟨w.heap.size,0,none⟩) 0 0) 0 []):=Qa (by refine ⟨rfl,.inr ⟨w.heap.size,0,#[],rfl,Nat.le_refl _,?_,Nat.le_refl _,by unfold maxLen;omega,rfl,rfl⟩⟩;show (w.heap.push _)[w.heap.size]?=_;simp);go_wp2_with ((at_builtin;refine Jf _ rfl (.tmp 5) (.tmp 6) 35 rfl w.heap.size 38 D (.agg #[.int .i64 0,.int .i64 0,.int .i64 0,.int .i64 0]) 4 32 Tryz.underlying35 E v x y rfl (.slice (some ⟨w.heap.size,0,none⟩) 0 0) 0 [] rfl r.out (some p) n c xs rfl (by simp) I.out (λa i j u d=>H.out a i j u d _) t.out (by omega) (by omega) (by simp) ?_;intro N O B C _));go_ret;have hb:=((Below.refl w.heap.size w).alloc (Nat.le_refl _) (.cells #[] 38)).grown C.out.by (by simp) (λb e=>(r.out.lt b e).1);have s:=B.out;rw [Nat.zero_add,nil_append] at s;exact ⟨_,rfl,s,hb⟩
theorem Qui (J:Nat) (ao:Option Addr) (n c:Nat) (xs:List Value) (w:World) (h:w.ownsRow J 69 2 (.slice ao n c) n xs) (L:n<=1000000) (f:∀ u ∈ xs,u.oneCell'=true) : Calls Tryz.prog 82 #[.slice ao n c] w λe w'=>∃ q,e=.returned q/\w'.ownsRow w.heap.size 69 2 q n xs/\Below w.heap.size w w':=by
 obtain ⟨D,E,v,x,y⟩:=info_parts QmD;have K:∀ w a l c,(binOp .eql 66 (.slice a l c) (.slice none 0 0)).run Tryz.prog w=.ok (.bool a.isNone) w:=λw a l c => Lib.run_eql_slice_nil (P:=Tryz.prog) w 66 69 a l c 0 0 Tryz.underlying66;have o:xs.length=n*2:=h.1;cases ao with
 | none =>
  have F:n=0:=by
   rcases h.2 with ⟨_,e⟩|⟨g,cap,z,e,_⟩
   ·exact e
   simp at e
  subst F;have A:xs=[]:=eq_nil_of_length_eq_zero (by omega);subst A;clear h f;go_enter Tryz.func82,Tryz.ntmps82;go_wp2;go_ret;exact ⟨_,rfl,World.ownsRow_nil _ _ _ _,Below.refl _ _⟩
 | some p =>
  have R:=Qa h;have m:∀ a,some p=some a->∀ j u,xs[j]?=some u->∀ k,(w.alloc k).cell? (a.add j)=some u:=λa i j u d k=>by
   cases i;have M:j<xs.length:=(List.getElem?_eq_some_iff.1 d).1;rcases h.2 with ⟨e,_⟩|⟨g,cap,z,e,_,G,_⟩
   ·cases e
   cases e;rw [QdW,World.cell?_alloc_lt w k ⟨g,0+j,none⟩ (QN G),Nat.zero_add,h.cellAt j (by omega)];exact d
  have H:=Qa m;have t:=Qa f;have I:=Qa o;clear h m f o;go_enter Tryz.func82,Tryz.ntmps82;have r:Hid ((w.alloc (.cells #[] 69)).ownsRow w.heap.size 69 2 (.slice (some ⟨w.heap.size,0,none⟩) 0 0) 0 []):=Qa (by refine ⟨rfl,.inr ⟨w.heap.size,0,#[],rfl,Nat.le_refl _,?_,Nat.le_refl _,by unfold maxLen;omega,rfl,rfl⟩⟩;show (w.heap.push _)[w.heap.size]?=_;simp);go_wp2_with ((at_builtin;refine Jf _ rfl (.tmp 5) (.tmp 6) 66 rfl w.heap.size 69 D (.agg #[.int .i64 0,.int .i64 0]) 2 16 Tryz.underlying66 E v x y rfl (.slice (some ⟨w.heap.size,0,none⟩) 0 0) 0 [] rfl r.out (some p) n c xs rfl (by simp) I.out (λa i j u d=>H.out a i j u d _) t.out (by omega) (by omega) (by simp) ?_;intro N O B C _));go_ret;have hb:=((Below.refl w.heap.size w).alloc (Nat.le_refl _) (.cells #[] 69)).grown C.out.by (by simp) (λb e=>(r.out.lt b e).1);have s:=B.out;rw [Nat.zero_add,nil_append] at s;exact ⟨_,rfl,s,hb⟩
theorem Qnj (l:List Ev):∀ u ∈ evL l,u.oneCell'=true:=by intro u a;unfold evL at a;obtain ⟨x,_,b⟩:=mem_flatMap.1 a;simp at b;rcases b with rfl|rfl|rfl|rfl<;>rfl
theorem Qoh (l:List (Int × Int)):∀ u ∈ JN l,u.oneCell'=true:=by intro u a;unfold JN at a;obtain ⟨x,_,b⟩:=mem_flatMap.1 a;simp at b;rcases b with rfl|rfl<;>rfl
def Qf3 (w:World) (l:List Ev) (e:Ending) (w':World):Prop:=∃ v,e=.returned v/\w'.ownsRow w.heap.size 38 4 v l.length (evL l)/\Below w.heap.size w w'
theorem Qj0 (f u:Nat) (d:Option Addr) (c:Nat) (l:List Ev) (w:World) (h:w.cell? ⟨f,0,none⟩=some (.pointer (some ⟨u,0,none⟩))) (i:w.cell? ⟨u,153,none⟩=some (.slice d l.length c)) (a:w.ownsRow 0 38 4 (.slice d l.length c) l.length (evL l)) (j:l.length<=1000000) : Calls Tryz.prog 10 #[.pointer (some ⟨f,0,none⟩)] w (Qf3 w l):=by have g:=Qa (QrW 0 d l.length c (evL l) w a j (Qnj l));have k:Hid (Calls Tryz.prog 25 #[.pointer (some ⟨u,0,none⟩)] w (Qf3 w l)):=Qa (by clear a h;generalize m:l.length=n at *;go_enter Tryz.func25,Tryz.ntmps25;go_wp2_with (first|(go_at_call 46;refine g.out.mono ?_;rintro e w2 ⟨v,rfl,b⟩));go_ret;exact ⟨v,rfl,by rw [m];exact b⟩);clear a i g;go_enter Tryz.func10,Tryz.ntmps10;go_wp2_with (first|(go_at_call 25;refine k.out.mono ?_;rintro e w2 ⟨v,rfl,b⟩));go_ret;exact ⟨v,rfl,b⟩
def Qiv (w:World) (l:List (Int × Int)) (e:Ending) (w':World):Prop:=∃ v,e=.returned v/\w'.ownsRow w.heap.size 69 2 v l.length (JN l)/\Below w.heap.size w w'
theorem QnI (f u:Nat) (d:Option Addr) (c:Nat) (l:List (Int × Int)) (w:World) (h:w.cell? ⟨f,0,none⟩=some (.pointer (some ⟨u,0,none⟩))) (i:w.cell? ⟨u,154,none⟩=some (.slice d l.length c)) (a:w.ownsRow 0 69 2 (.slice d l.length c) l.length (JN l)) (j:l.length<=1000000) : Calls Tryz.prog 26 #[.pointer (some ⟨f,0,none⟩)] w (Qiv w l):=by have g:=Qa (Qui 0 d l.length c (JN l) w a j (Qoh l));have k:Hid (Calls Tryz.prog 47 #[.pointer (some ⟨u,0,none⟩)] w (Qiv w l)):=Qa (by clear a h;generalize m:l.length=n at *;go_enter Tryz.func47,Tryz.ntmps47;go_wp2_with (first|(go_at_call 82;refine g.out.mono ?_;rintro e w2 ⟨v,rfl,b⟩));go_ret;exact ⟨v,rfl,by rw [m];exact b⟩);clear a i g;go_enter Tryz.func26,Tryz.ntmps26;go_wp2_with (first|(go_at_call 47;refine k.out.mono ?_;rintro e w2 ⟨v,rfl,b⟩));go_ret;exact ⟨v,rfl,b⟩
theorem Qh7 (a u:Nat) (t:Int) (w:World) (b:Int->World->Prop) (f:w.cell? ⟨a,0,none⟩=some (.pointer (some ⟨u,0,none⟩))) (c:Hid (Calls Tryz.prog 24 #[.pointer (some ⟨u,0,none⟩),.int .i64 t] w λe w'=>∃ x,e=.returned (.int .i64 x)/\b x w')) : Calls Tryz.prog 9 #[.pointer (some ⟨a,0,none⟩),.int .i64 t] w λe w'=>∃ x,e=.returned (.int .i64 x)/\b x w':=by go_enter Tryz.func9,Tryz.ntmps9;go_wp2_with (first|(go_at_call 24;refine c.out.mono ?_;rintro e w2 ⟨x,rfl,d⟩));go_ret;exact ⟨x,rfl,d⟩
theorem Qmm (ao:Option Addr) (n c:Nat) (w:World) (a k:Int) (f:(a !=0)=true) (d:Hid (Calls Tryz.prog 23 #[.slice ao n c] w λe w'=>e=.returned (.tuple #[.pointer none,.int .i64 a,.int .i64 k])/\Below w.heap.size w w')) : Calls Tryz.prog 7 #[.slice ao n c] w λe w'=>e=.returned (.tuple #[.pointer none,.int .i64 a,.int .i64 k])/\Below w.heap.size w w':=by go_enter Tryz.func7,Tryz.ntmps7;go_wp2_with (first|(go_at_call 23;refine d.out.mono ?_;rintro e w1 ⟨rfl,b⟩));refine bodyPost_ret (results_tmp3 rfl _ _ _) rfl ?_;exact ⟨rfl,b⟩
theorem Qnf (ao:Option Addr) (n c:Nat) (w:World) (a:Nat->World->Prop) (d:Hid (Calls Tryz.prog 23 #[.slice ao n c] w λe w'=>∃ u:Nat,e=.returned (.tuple #[.pointer (some ⟨u,0,none⟩),.int .i64 0,.int .i64 0])/\a u w')) : Calls Tryz.prog 7 #[.slice ao n c] w λe w'=>∃ u w1,a u w1/\w'=w1.alloc (.cells #[.pointer (some ⟨u,0,none⟩)] 65)/\e=.returned (.tuple #[.pointer (some ⟨w1.heap.size,0,none⟩),.int .i64 0,.int .i64 0]):=by go_enter Tryz.func7,Tryz.ntmps7;go_wp2_with (first|(go_at_call 23;refine d.out.mono ?_;rintro e w1 ⟨u,rfl,b⟩));refine bodyPost_ret (results_tmp3 rfl _ _ _) rfl ?_;exact ⟨u,w1,b,rfl,rfl⟩
end Go.Proofs.YtobgcaemnpkbmaaGreatDoor
