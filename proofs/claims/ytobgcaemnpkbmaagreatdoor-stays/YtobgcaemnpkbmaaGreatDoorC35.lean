import Derived.Test.YtobgcaemnpkbmaaGreatDoorC34
namespace Go.Proofs.YtobgcaemnpkbmaaGreatDoor
set_option maxRecDepth 100000
set_option maxHeartbeats 8000000
open Go.RowKit List
theorem Qjp (x:Qm) (t:Int) (w:World) (b:0<=x.t/\x.t<=1000000) (c:0<=t/\t<=1000000) : Calls Tryz.prog 113 #[.agg #[.int .i64 x.a.kd,.int .i64 x.a.nm,.int .i64 x.a.pa,.int .i64 x.a.fl,.int .i64 x.a.n,.int .i64 x.a.m,.int .i64 x.t,.int .i64 x.g],.int .i64 t] w λe w'=>e=.returned (.int .i64 (x.t-t))/\Below w.heap.size w w':=by go_enter Tryz.func113,Tryz.ntmps113;go_wp2;go_ret;exact ⟨rfl,(Below.refl _ _).alloc (Nat.le_refl _) _⟩
def Ups (a:List Qm):Prop:=a.Pairwise λx b=>x.t<b.t
theorem Ups.le {a:List Qm} (h:Ups a) {i j:Nat} (c:i<a.length) (d:j<a.length) (b:i<=j):a[i].t<=a[j].t:=by
 rcases Nat.eq_or_lt_of_le b with e|e
 ·subst e;exact Int.le_refl _
 exact Int.le_of_lt (pairwise_iff_getElem.1 h i j c d e)
def Qj2 (a:List Qm) (n:Nat) (t:Int) (w:World) (e:Ending) (w':World):Prop:=∃ (p:Nat) (b:Bool),e=.returned (.tuple #[.int .i64 p,.bool b])/\p<=n/\(∀ i,(c:i<a.length)->i<p->a[i].t<t)/\(∀ i,(c:i<a.length)->p<=i->t<=a[i].t)/\Below w.heap.size w w'
theorem Qoa (ao:Option Addr) (n c:Nat) (d:List Qm) (t:Int) (w:World) (O:n=d.length) (a8:n<=48) (l:Ups d) (q:0<=t/\t<=1000000) (P:∀ x,x ∈ d->0<=x.t/\x.t<=1000000) (M:∀ m,(ab:m<d.length)->∃ g,ao=some ⟨g,0,none⟩/\g<w.heap.size/\w.rangeAt g (m*8) d[m].cells) : Calls Tryz.prog 112 #[.slice ao n c,.int .i64 t,.func (.func 113) #[] #[]] w (Qj2 d n t w):=by
 have H:=Qa O;have R:=Qa l;have S:=Qa M;have T:=Qa P;clear O l M P;go_enter Tryz.func112,Tryz.ntmps112;go_wp2;go_loopw [9,10,11] (λi j _ wr=>∃ a b:Nat,i=.int .i64 a/\j=.int .i64 b/\a<=b/\b<=n/\Hid (∀ s,(l:s<d.length)->s<a->d[s].t<t)/\Hid (∀ s,(l:s<d.length)->b<=s->t<=d[s].t)/\Hid (Below w.heap.size w wr)) (λi j _ _=>(intOf j).toNat-(intOf i).toNat);·exact ⟨0,n,rfl,rfl,Nat.zero_le _,Nat.le_refl _,Qa (λ_ _ h=>absurd h (Nat.not_lt_zero _)),Qa (λt q h=>by have:=H.out;omega),Qa (Below.refl _ _)⟩
 case round =>
  obtain ⟨a,b,rfl,rfl,a9,B,C,D,hb⟩:=hrel;have a5:n<=d.length:=by have:=H.out;omega
  have a6:d.length<=n:=by have:=H.out;omega
  by_cases aa:a<b
  ·have o:(a+b) / 2<d.length:=by omega
   obtain ⟨g,E,F,y⟩:=S.out ((a+b) / 2) o;subst E;have I:=T.out _ (getElem_mem o);have N:Hid (∀ s,(l:s<d.length)->(d[(a+b) / 2].t<t->s<=(a+b) / 2->d[s].t<t)/\(¬ d[(a+b) / 2].t<t->(a+b) / 2<=s->t<=d[s].t)):=by
    refine Qa λs l=>⟨λh G=>?_,λh G=>?_⟩
    ·have:=R.out.le l o G;omega
    have:=R.out.le o l G;omega
   have A:Hid (∀ w,Calls Tryz.prog 113 #[.agg #[.int .i64 d[(a+b) / 2].a.kd,.int .i64 d[(a+b) / 2].a.nm,.int .i64 d[(a+b) / 2].a.pa,.int .i64 d[(a+b) / 2].a.fl,.int .i64 d[(a+b) / 2].a.n,.int .i64 d[(a+b) / 2].a.m,.int .i64 d[(a+b) / 2].t,.int .i64 d[(a+b) / 2].g],.int .i64 t] w λe w'=>e=.returned (.int .i64 (d[(a+b) / 2].t-t))/\Below w.heap.size w w'):=Qa (λw=>Qjp _ _ w I q);have f:∀ r v,d[(a+b) / 2].cells[r]?=some v->wr.cell? ⟨g,(a+b) / 2*8+r,none⟩=some v:=λr v J=>(hb.out.cell (p:=⟨g,(a+b) / 2*8+r,none⟩) F).trans (y r v J);have K:=f 0 _ rfl;have W:=f 1 _ rfl;have X:=f 2 _ rfl;have Y:=f 3 _ rfl;have a0:=f 4 _ rfl;have a1:=f 5 _ rfl;have a2:=f 6 _ rfl;have a3:=f 7 _ rfl;rw [Nat.add_zero] at K;generalize d[(a+b) / 2]=x at *;clear y f;by_cases z:x.t<t
   ·have a4:decide (x.t-t<0)=true:=decide_eq_true (by omega);have L:=Qa z;clear z;go_wp2_with (first|(go_at_call 113;refine (Qb A _).mono ?_;rintro e w1 ⟨rfl,k⟩;have u:=Qa k;clear k));go_roundw
    ·exact ⟨(a+b) / 2+1,b,by go_num,rfl,by omega,B,Qa (λt q h=>(N.out t q).1 L.out (by omega)),D,Qa (hb.out.trans (u.out.mono hb.out.size))⟩
    simp [intOf];omega
   have a4:decide (x.t-t<0)=false:=decide_eq_false (by omega);have L:=Qa z;clear z;go_wp2_with (first|(go_at_call 113;refine (Qb A _).mono ?_;rintro e w1 ⟨rfl,k⟩;have u:=Qa k;clear k));go_roundw;·exact ⟨a,(a+b) / 2,rfl,by go_num,by omega,by omega,C,Qa (λt q h=>(N.out t q).2 L.out h),Qa (hb.out.trans (u.out.mono hb.out.size))⟩
   simp [intOf];omega
  have U:b=a:=by omega
  subst U;by_cases a7:b<n
  ·have o:b<d.length:=by omega
   obtain ⟨g,E,F,y⟩:=S.out b o;subst E;have I:=T.out _ (getElem_mem o);have A:Hid (∀ w,Calls Tryz.prog 113 #[.agg #[.int .i64 d[b].a.kd,.int .i64 d[b].a.nm,.int .i64 d[b].a.pa,.int .i64 d[b].a.fl,.int .i64 d[b].a.n,.int .i64 d[b].a.m,.int .i64 d[b].t,.int .i64 d[b].g],.int .i64 t] w λe w'=>e=.returned (.int .i64 (d[b].t-t))/\Below w.heap.size w w'):=Qa (λw=>Qjp _ _ w I q);have f:∀ r v,d[b].cells[r]?=some v->wr.cell? ⟨g,b*8+r,none⟩=some v:=λr v J=>(hb.out.cell (p:=⟨g,b*8+r,none⟩) F).trans (y r v J);have K:=f 0 _ rfl;have W:=f 1 _ rfl;have X:=f 2 _ rfl;have Y:=f 3 _ rfl;have a0:=f 4 _ rfl;have a1:=f 5 _ rfl;have a2:=f 6 _ rfl;have a3:=f 7 _ rfl;rw [Nat.add_zero] at K;generalize d[b]=x at *;clear y f;have V:(b:Int)<(n:Int):=by omega
   go_wp2_with (first|(go_at_call 113;refine (Qb A _).mono ?_;rintro e w1 ⟨rfl,k⟩;have u:=Qa k;clear k));go_ret2;exact ⟨b,_,rfl,B,C.out,D.out,hb.out.trans (u.out.mono hb.out.size)⟩
  have V:¬ (b:Int)<(n:Int):=by omega
  go_wp2_with fail;go_ret2;exact ⟨b,_,rfl,B,C.out,D.out,hb.out⟩
def Qd7 (w:World) (v:Value) (n:Nat) (c:List Value) (e:Ending) (w':World):Prop :=
 ∃ a,e=.returned a/\w'.ownsRow 0 167 8 a (n+1) c/\w.grownBy w' v.ownBlock/\(a.ownBlock=v.ownBlock \/ ∃ b,a.ownBlock=some b/\w.heap.size<=b)
theorem Qs2 (v:Value) (n i f:Nat) (xs u:List Value) (w:World) (b:w.ownsRow 0 167 8 v n xs) (H:i=n) (P:n<=1000000) (B:u.length=8) (o:∀ x ∈ u,x.oneCell'=true) (p:w.heap[f]?=some (.cells u.toArray 167 (0,0))) : Calls Tryz.prog 114 #[v,.int .i64 i,.slice (some ⟨f,0,none⟩) 1 1] w (Qd7 w v n (xs++u)):=by
 obtain ⟨C,q,r,s,t⟩:=info_parts QeC;obtain ⟨ao,c,rfl⟩:=Qz b;have y:n<=c:=by
  rcases b.2 with ⟨e,h⟩|⟨I,cap,G,e,hb,J,y,_⟩
  ·omega
  simp only [Value.slice.injEq] at e;obtain ⟨_,_,rfl⟩:=e;exact y
 have z:c<=9223372036854775807:=by
  rcases b.2 with ⟨e,h⟩|⟨I,cap,G,e,hb,J,_,z,_⟩
  ·simp only [Value.slice.injEq] at e;omega
  simp only [Value.slice.injEq] at e;obtain ⟨_,_,rfl⟩:=e;unfold maxLen at z;omega
 have m:∀ a,some (⟨f,0,none⟩:Addr)=some a->∀ j x,u[j]?=some x->w.cell? (a.add j)=some x:=λa e j x K=>by cases e;rw [ZS,Nat.zero_add];simp only [World.cell?,p];simpa using K
 have D:=Qa b;have E:=Qa m;have F:=Qa B;have A:=Qa o;subst H;clear b m p B o;cases ao with
 | none =>go_enter Tryz.func114,Tryz.ntmps114;go_wp2_with (first|(at_builtin;refine Jf _ rfl _ _ 100 rfl 0 167 C _ 8 64 Tryz.underlying100 q r s t rfl (.slice none i c) i xs rfl (Qb D) (some ⟨f,0,none⟩) 1 1 u rfl (by simp) (by rw [Qb F]) (Qb E) (Qb A) (by omega) (by omega) (Nat.zero_le _) ?_;intro l L k d _));all_goals (go_ret;exact ⟨l,rfl,k.out,d.out.by,d.out.at.imp id λe=>⟨_,e,Nat.le_refl _⟩⟩)
 | some M =>obtain ⟨g,O,N⟩:=M;go_enter Tryz.func114,Tryz.ntmps114;go_wp2_with (first|(at_builtin;refine Jf _ rfl _ _ 100 rfl 0 167 C _ 8 64 Tryz.underlying100 q r s t rfl (.slice (some ⟨g,O,N⟩) i c) i xs rfl (Qb D) (some ⟨f,0,none⟩) 1 1 u rfl (by simp) (by rw [Qb F]) (Qb E) (Qb A) (by omega) (by omega) (Nat.zero_le _) ?_;intro l L k d _));all_goals (go_ret;exact ⟨l,rfl,k.out,d.out.by,d.out.at.imp id λe=>⟨_,e,Nat.le_refl _⟩⟩)
theorem QtX (g n c i f:Nat) (xs u:List Value) (w:World) (o:w.ownsRow 0 167 8 (.slice (some ⟨g,0,none⟩) n c) n xs) (aA:i<n) (a2:n+1<=c) (ae:∀ x ∈ xs,x.oneCell'=true) (z:u.length=8) (a4:∀ x ∈ u,x.oneCell'=true) (C:w.heap[f]?=some (.cells u.toArray 167 (0,0))) (O:f≠g) : Calls Tryz.prog 114 #[.slice (some ⟨g,0,none⟩) n c,.int .i64 i,.slice (some ⟨f,0,none⟩) 1 1] w (Qd7 w (.slice (some ⟨g,0,none⟩) n c) n (xs.take (i*8)++u++xs.drop (i*8))):=by
 obtain ⟨aB,a5,al,a6,ao⟩:=info_parts QeC;obtain ⟨a7,M,R,ap,a8⟩:=Qcp o;have aj:c<=9223372036854775807:=by unfold maxLen at a8;omega
 have F:=o.1;obtain ⟨D,S,B⟩:=QgI o (m:=n+1) (by omega) a2;have T:(Tryz.prog.info? 167).map (·.size)=some 8:=by rw [a5];simp [a6]
 have U:∀ j x,u[j]?=some x->w.cell? ⟨f,j,none⟩=some x:=λj x a=>by simp only [World.cell?,C];simpa using a
 have a9:∀ H I,(callFunc 157 #[.slice (some ⟨f,0,none⟩) 1 1,.slice (some ⟨g,(i+1)*8,none⟩) H I]).run Tryz.prog w=.ok (.value (.bool false)) w:=λH I=>by rw [run_callFunc_extern Tryz.func157 (by kernel_rfl) (by kernel_rfl) (by kernel_rfl) (e:=Extern.SlicesOverlaps.overlaps #[100,100] #[4]) (by kernel_rfl), Lib.run_overlaps_apart w 100 4 167 Tryz.underlying100 8 (λw=>Tryz.sizeOf167 w) ⟨f,0,none⟩ ⟨g,(i+1)*8,none⟩ 1 1 H I O 167 167 u.toArray.size a7.size (by unfold World.shape?;rw [C]) (by unfold World.shape?;rw [M]) (by rw [R];omega) (by simp [World.frozen?,C]) (by simp [World.frozen?,C])];rfl
 have V:∀ j,j<(n+1)*8->(w.cell? ⟨g,j,none⟩).isSome=true:=λj A=>by rw [B.cellAt j A,getElem?_eq_getElem (by rw [B.1];exact A)];rfl
 have W:∀ j,w.frozen? ⟨g,j,none⟩=false:=λj=>o.frozenAt j;obtain ⟨d,p⟩:∃ d,d=xs.drop (i*8):=⟨_,rfl⟩;have E:d.length=(n-i)*8:=by rw [p,length_drop,F];omega
 have K:Nat.min (n+1-i) (n-i)=n-i:=by show min _ _=_;omega
 have N:∀ k l J,(Builtin.copy_ #[100,100] k #[.slice (some ⟨g,(i+1)*8,none⟩) (n-i) l,.slice (some ⟨g,i*8,none⟩) (n+1-i) J]).run Tryz.prog w.drew=.ok (goInt ((n-i:Nat):Int)) (w.drew.setCells g ((i+1)*8) d):=λk l J=>by
  have h:=Qbo (P:=Tryz.prog) w.drew 100 100 k 167 8 g ((i+1)*8) (n-i) l ⟨g,i*8,none⟩ (n+1-i) J d Tryz.underlying100 T (by rw [K];exact E)
   (λj x a=>by
    have aq:=(List.getElem?_eq_some_iff.1 a).1
    rw [ZS]
    show w.cell? _=_
    rw [p,getElem?_drop] at a
    rw [o.cellAt _ (by omega)]
    exact a)
   (λj A=>V _ (by omega)) (λj _=>W _) (λx a=>ae x (by rw [p] at a;exact mem_of_mem_drop a))
  rw [K] at h;exact h
 obtain ⟨r,t⟩:∃ r,r=w.drew.setCells g ((i+1)*8) d:=⟨_,rfl⟩;rw [<- t] at N;have v:r.ownsRow 0 167 8 (.slice (some ⟨g,0,none⟩) (n+1) c) (n+1) (Zj (xs++D) ((i+1)*8) d):=by rw [t];exact J9 d ((i+1)*8) B.drew
 have G:=Jj g d ((i+1)*8) w.drew;rw [<- t] at G;have X:(Zj (xs++D) ((i+1)*8) d).length=(n+1)*8:=v.1;have L:Nat.min 1 (n+1-i)=1:=by show min _ _=_;omega
 have a3:∀ (s:World),(∀ x,s.cell? x=r.cell? x)->(∀ x,s.frozen? x=r.frozen? x)->∀ k l,(Builtin.copy_ #[100,100] k #[.slice (some ⟨g,i*8,none⟩) (n+1-i) l,.slice (some ⟨f,0,none⟩) 1 1]).run Tryz.prog s=.ok (goInt 1) (s.setCells g (i*8) u):=λs Y aa k l=>by
  have h:=Qbo (P:=Tryz.prog) s 100 100 k 167 8 g (i*8) (n+1-i) l ⟨f,0,none⟩ 1 1 u Tryz.underlying100 T (by rw [L,z])
   (λj x a=>by
    rw [ZS,Nat.zero_add,Y,t,World.cell?_setCells_out g _ _ _ _ (λh _=>absurd h O)]
    exact U j x a)
   (λj A=>by rw [Y,v.cellAt _ (by omega),getElem?_eq_getElem (by rw [X];omega)];rfl) (λj A=>by rw [aa];exact v.frozenAt _) a4
  rw [L] at h;exact h
 have ab:=Qa v;have q:=Qa G;have af:=Qa F;have ac:=Qa E;have ag:=Qa p;have ah:=Qa z;have ad:=Qa S;have ar:¬ (c=i+1):=by omega
 have au:¬ (c=i):=by omega
 have ak:¬ ((i:Int)=(n:Int)):=by omega
 have av:IntKind.i64.wrap ((i:Int)+1)=(i:Int)+1:=by rw [IntKind.wrap_i64];omega
 have aw:i<=n:=by omega
 have ax:((i:Int)+1).toNat=i+1:=by omega
 have ay:(i:Int)<=(n:Int)+1:=by omega
 have az:(0:Int)<=(i:Int)+1:=by omega
 have ai:¬ ((c:Int)<(n:Int)+1):=by omega
 clear o B V W v G X M U F E p z S t R;go_enter Tryz.func114,Tryz.ntmps114;go_wp2_with (simp only [a9]);go_region_law (refine step_copy_runI rfl _ _ 100 100 rfl _ _ (by simp [Act.eval,Act.put]) (by simp [Act.eval,Act.put]) (N _ _ _) ?_);go_wp2_with (at_builtin;refine wpList_copy_runI _ rfl _ _ 100 100 rfl _ _ rfl rfl (a3 _ (λ_=>rfl) (λ_=>rfl) _ _) ?_);go_ret;have a0:=J9 u (i*8) ab.out;have y:=Jj g u (i*8) r;have a:=af.out;have aC:=ad.out;have z:=ah.out;have p:=ac.out;refine ⟨.slice (some ⟨g,0,none⟩) (n+1) c,rfl,?_,⟨y.1.os.trans q.out.1.os,y.1.tape.trans (q.out.1.tape.trans rfl),y.1.output.trans q.out.1.output,?_,λb hb a1=>(y.1.block b (by rw [q.out.2];exact hb) a1).trans (q.out.1.block b hb a1)⟩,.inl rfl⟩
 ·have e:Zj (Zj (xs++D) ((i+1)*8) d) (i*8) u=xs.take (i*8)++u++xs.drop (i*8):=by have h:=Qie xs D u (i*8) 8 (by omega) z (by omega);rw [<- ag.out] at h ⊢;rw [show i*8+8=(i+1)*8 by omega] at h;exact h
  rw [e] at a0;exact a0
 rw [y.2,q.out.2];exact Nat.le_refl _
theorem Qo2 (g n c i q:Nat) (xs u:List Value) (w:World) (v:w.ownsRow 0 167 8 (.slice (some ⟨g,0,none⟩) n c) n xs) (aR:i<n) (ae:c<n+1) (aA:n<=1000000) (C:∀ x ∈ xs,x.oneCell'=true) (N:u.length=8) (ah:∀ x ∈ u,x.oneCell'=true) (I:w.heap[q]?=some (.cells u.toArray 167 (0,0))) : Calls Tryz.prog 114 #[.slice (some ⟨g,0,none⟩) n c,.int .i64 i,.slice (some ⟨q,0,none⟩) 1 1] w (Qd7 w (.slice (some ⟨g,0,none⟩) n c) n (xs.take (i*8)++u++xs.drop (i*8))):=by
 obtain ⟨ab,a1,ai,a2,a3⟩:=info_parts QeC;obtain ⟨aE,V,aj,aF,aG⟩:=Qcp v;have a4:=v.1;have ak:g<w.heap.size:=(Array.getElem?_eq_some_iff.1 V).1;have al:q<w.heap.size:=(Array.getElem?_eq_some_iff.1 I).1;have a5:(Tryz.prog.info? 167).map (·.size)=some 8:=by rw [a1];simp [a2]
 have a6:∀ j x,u[j]?=some x->w.cell? ⟨q,j,none⟩=some x:=λj x o=>by simp only [World.cell?,I];simpa using o
 have a7:(n:Int)+1-(i:Int)=((n+1-i:Nat):Int):=by omega
 have J:i+(n+1-i)=n+1:=by omega
 have W:(Builtin.firstCells ab.size i (.slice (some ⟨g,0,none⟩) i c)).run Tryz.prog w.drew=.ok (xs.take (i*8)).toArray w.drew:=by
  rw [a2];exact run_firstCells_some w.drew 8 i ⟨g,0,none⟩ i c (xs.take (i*8)) (by rw [length_take];omega) (λj x r=>by
   rw [ZS,Nat.zero_add];show w.cell? _=_;rw [getElem?_take] at r;split at r
   ·rw [v.cellAt j (by omega)];exact r
   cases r)
 have G:∀ m,(Builtin.append_ #[100,3] m #[.slice (some ⟨g,0,none⟩) i c,.int .i64 ((n:Int)+1-(i:Int))]).run Tryz.prog w = .ok (.slice (some ⟨w.heap.size,0,none⟩) (n+1) (grownCap w (n+1) c 167)) (w.drew.alloc (.cells ((xs.take (i*8)).toArray++Builtin.zeroCells ((.agg #[.int .i64 0,.int .i64 0,.int .i64 0,.int .i64 0,.int .i64 0,.int .i64 0,.int .i64 0,.int .i64 0]):Value).cells (n+1-i)++Builtin.zeroCells ((.agg #[.int .i64 0,.int .i64 0,.int .i64 0,.int .i64 0,.int .i64 0,.int .i64 0,.int .i64 0,.int .i64 0]):Value).cells (grownCap w (n+1) c 167-(n+1))) 167)):=λm=>by have h:=Lib.run_append_grow_zeros w 100 3 m 167 ab _ .i64 .i64 Tryz.underlying100 Tryz.underlying3 a1 ai (some ⟨g,0,none⟩) i c (xs.take (i*8)) W (n+1-i) (by omega) (by omega) (by omega) (by omega) (by rw [a3];omega) (by rw [a3,J];exact growslice_fits ae (by omega));rw [J] at h;rw [a7];exact h
 obtain ⟨k,H⟩:∃ k,k=grownCap w (n+1) c 167:=⟨_,rfl⟩;have ao:n+1<=k:=by rw [H];exact grownCap_ge w _ _ _
 have a8:k<=maxLen:=by rw [H];exact grownCap_le_maxLen w (n+1) c 167 (by unfold maxLen;omega)
 have aB:k<=9223372036854775807:=by unfold maxLen at a8;omega
 obtain ⟨d,D⟩:∃ d:Array Value,d=(xs.take (i*8)).toArray++Builtin.zeroCells ((.agg #[.int .i64 0,.int .i64 0,.int .i64 0,.int .i64 0,.int .i64 0,.int .i64 0,.int .i64 0,.int .i64 0]):Value).cells (n+1-i)++Builtin.zeroCells ((.agg #[.int .i64 0,.int .i64 0,.int .i64 0,.int .i64 0,.int .i64 0,.int .i64 0,.int .i64 0,.int .i64 0]):Value).cells (k-(n+1)):=⟨_,rfl⟩;rw [<- H] at G;rw [<- D] at G;have ap:(((.agg #[.int .i64 0,.int .i64 0,.int .i64 0,.int .i64 0,.int .i64 0,.int .i64 0,.int .i64 0,.int .i64 0]):Value).cells).size=8:=rfl;have a9:d.size=k*8:=by rw [D,Array.size_append,Array.size_append,size_zeroCells,size_zeroCells,ap,size_toArray,length_take];omega
 have aa:d.toList.take (i*8)=xs.take (i*8):=by rw [D,Array.toList_append,Array.toList_append,append_assoc,take_append_of_le_length (by simp;omega),toList_toArray,take_take,Nat.min_self]
 obtain ⟨l,y⟩:∃ l,l=w.drew.alloc (.cells d 167):=⟨_,rfl⟩;have z:l.ownsRow 0 167 8 (.slice (some ⟨w.heap.size,0,none⟩) (n+1) k) (n+1) (d.toList.take ((n+1)*8)):=by refine ⟨by rw [length_take,Array.length_toList];omega,.inr ⟨w.heap.size,k,d,rfl,Nat.zero_le _,by rw [y];exact heap_alloc_new w.drew _,ao,a8,a9,rfl⟩⟩
 rw [<- y] at G;have E:∀ b,b<w.heap.size->l.heap[b]?=w.heap[b]?:=λb hb=>by rw [y];exact heap_alloc_old w.drew _ hb
 have T:Nat.min 1 (n+1-i)=1:=by show min _ _=_;omega
 have t:(d.toList.take ((n+1)*8)).length=(n+1)*8:=z.1;have ag:∀ (f:World),(∀ x,f.cell? x=l.cell? x)->(∀ x,f.frozen? x=l.frozen? x)->∀ m s,(Builtin.copy_ #[100,100] m #[.slice (some ⟨w.heap.size,i*8,none⟩) (n+1-i) s,.slice (some ⟨q,0,none⟩) 1 1]).run Tryz.prog f=.ok (goInt 1) (f.setCells w.heap.size (i*8) u):=λf A K m s=>by
  have h:=Qbo (P:=Tryz.prog) f 100 100 m 167 8 w.heap.size (i*8) (n+1-i) s ⟨q,0,none⟩ 1 1 u Tryz.underlying100 a5 (by rw [T,N])
   (λj x o=>by
    rw [ZS,Nat.zero_add,A,World.cell?_of_block (w:=w) (a:=⟨q,j,none⟩) (E q al)]
    exact a6 j x o)
   (λj r=>by rw [A,z.cellAt _ (by omega),getElem?_eq_getElem (by rw [t];omega)];rfl) (λj r=>by rw [K];exact z.frozenAt _) ah
  rw [T] at h;exact h
 obtain ⟨p,B⟩:∃ p,p=xs.drop (i*8):=⟨_,rfl⟩;have X:p.length=(n-i)*8:=by rw [B,length_drop,a4];omega
 have F:=J9 u (i*8) z;have aq:g≠w.heap.size:=by omega
 have U:Nat.min (n-i) (n-i)=n-i:=by show min _ _=_;omega
 have Y:∀ (f:World),(∀ x,f.cell? x=(l.setCells w.heap.size (i*8) u).cell? x)->(∀ x,f.frozen? x=(l.setCells w.heap.size (i*8) u).frozen? x)->∀ m s O,(Builtin.copy_ #[100,100] m #[.slice (some ⟨w.heap.size,(i+1)*8,none⟩) (n-i) s,.slice (some ⟨g,i*8,none⟩) (n-i) O]).run Tryz.prog f=.ok (goInt ((n-i:Nat):Int)) (f.setCells w.heap.size ((i+1)*8) p):=λf A K m s O=>by
  have h:=Qbo (P:=Tryz.prog) f 100 100 m 167 8 w.heap.size ((i+1)*8) (n-i) s ⟨g,i*8,none⟩ (n-i) O p Tryz.underlying100 a5 (by rw [U];exact X)
   (λj x o=>by
    have aH:=(List.getElem?_eq_some_iff.1 o).1
    rw [ZS,A,World.cell?_setCells_out _ _ _ _ _ (λh _=>absurd h aq),World.cell?_of_block (w:=w) (a:=⟨g,_,none⟩) (E g ak)]
    rw [B,getElem?_drop] at o
    rw [v.cellAt _ (by omega)]
    exact o)
   (λj r=>by rw [A,F.cellAt _ (by omega),getElem?_eq_getElem (by rw [Qbe,t];omega)];rfl)
   (λj r=>by rw [K];exact F.frozenAt _) (λx o=>C x (by rw [B] at o;exact mem_of_mem_drop o))
  rw [U] at h;exact h
 have a0:∀ f:World,f.heap=((l.setCells w.heap.size (i*8) u).setCells w.heap.size ((i+1)*8) p).heap->f.os=w.os/\f.tape=w.tape/\f.output=w.output->Qd7 w (.slice (some ⟨g,0,none⟩) n c) n (xs.take (i*8)++u++xs.drop (i*8)) (.returned (.slice (some ⟨w.heap.size,0,none⟩) (n+1) k)) f:=λf L M=>by
  have ac:=J9 p ((i+1)*8) F;have ad:=Jj w.heap.size p ((i+1)*8) (l.setCells w.heap.size (i*8) u);have R:=Jj w.heap.size u (i*8) l;have e:Zj (Zj (d.toList.take ((n+1)*8)) (i*8) u) ((i+1)*8) p=xs.take (i*8)++u++xs.drop (i*8):=by
   have ay:Zj (d.toList.take ((n+1)*8)) (i*8) u=xs.take (i*8)++u++(d.toList.take ((n+1)*8)).drop (i*8+u.length):=by rw [Qa7 _ _ _ (by rw [t];omega),take_take,Nat.min_eq_left (by omega)];rw [aa]
   have af:(xs.take (i*8)++u).length=(i+1)*8:=by rw [length_append,length_take,N];omega
   rw [Qa7 _ _ _ (by rw [Qbe,t];omega),drop_of_length_le (by rw [Qbe,t];omega),append_nil,ay];have:=take_left (l₁:=xs.take (i*8)++u) (l₂:=(d.toList.take ((n+1)*8)).drop (i*8+u.length));rw [af] at this;rw [this,B]
  rw [e] at ac;have ar:l.heap.size=w.heap.size+1:=by rw [y];simp
  have aI:f.heap.size=w.heap.size+1:=by rw [L,ad.2,R.2,ar]
  refine ⟨_,rfl,QT ac (λb _=>by rw [L]),⟨M.1,M.2.1,M.2.2,by omega,λb hb _=>?_⟩,.inr ⟨w.heap.size,rfl,Nat.le_refl _⟩⟩;rw [L];exact (ad.1.block b (by rw [R.2];omega) (λe=>by have:=Option.some.inj e;omega)).trans ((R.1.block b (by omega) (λe=>by have:=Option.some.inj e;omega)).trans (E b hb))
 have az:=Qa a0;subst y;have au:∀ x,((w.alloc (.cells d 167)).drew).cell? x=(w.drew.alloc (.cells d 167)).cell? x:=λx=>rfl;have av:∀ x,((w.alloc (.cells d 167)).drew).frozen? x=(w.drew.alloc (.cells d 167)).frozen? x:=λx=>rfl;have aw:∀ x,(((w.alloc (.cells d 167)).drew.setCells w.heap.size (i*8) u).drew).cell? x=((w.drew.alloc (.cells d 167)).setCells w.heap.size (i*8) u).cell? x:=λx=>rfl;have ax:∀ x,(((w.alloc (.cells d 167)).drew.setCells w.heap.size (i*8) u).drew).frozen? x=((w.drew.alloc (.cells d 167)).setCells w.heap.size (i*8) u).frozen? x:=λx=>rfl;have aJ:(c:Int)<(n:Int)+1:=by omega
 have aK:¬ (k=i):=by omega
 have aC:¬ (k=i+1):=by omega
 have aL:¬ (c=i):=by omega
 have aD:¬ ((i:Int)=(n:Int)):=by omega
 have aM:IntKind.i64.wrap ((i:Int)+1)=(i:Int)+1:=by rw [IntKind.wrap_i64];omega
 have aN:(0:Int)<=(i:Int)+1:=by omega
 have aO:i<=n:=by omega
 have aP:((i:Int)+1).toNat=i+1:=by omega
 have aQ:(i:Int)<=(n:Int):=by omega
 clear a7 J W D H a9 v z F a0 V I a6 a4 X B N E aa t aj;go_enter Tryz.func114,Tryz.ntmps114
 go_wp2_with (first
  | (at_builtin;refine Lib.wpList_append_run _ rfl _ _ _ _ rfl _ _ rfl rfl _ _ (G _) ?_)
  | (at_builtin;refine wpList_copy_runI _ rfl _ _ 100 100 rfl _ _ rfl rfl (ag _ au av _ _) ?_)
  | (at_builtin;refine wpList_copy_runI _ rfl _ _ 100 100 rfl _ _ rfl rfl (Y _ (λ_=>rfl) (λ_=>rfl) _ _ _) ?_))
 go_region_law (refine step_copy_runI rfl _ _ 100 100 rfl (.slice (some ⟨w.heap.size,(i+1)*8,none⟩) (n-i) (k-(i+1))) (.slice (some ⟨g,i*8,none⟩) (n-i) (c-i)) (by simp [Act.eval,Act.put]) (by simp [Act.eval,Act.put]) (Y _ aw ax 3 (k-(i+1)) (c-i)) ?_);go_wp2;go_ret;have C:=(Jj w.heap.size p ((i+1)*8) ((w.alloc (.cells d 167)).drew.setCells w.heap.size (i*8) u).drew).1;have S:=(Jj w.heap.size u (i*8) (w.alloc (.cells d 167)).drew).1;exact az.out _ (by rw [Qib];rfl) ⟨C.os.trans S.os,C.tape.trans S.tape,C.output.trans S.output⟩
theorem Qnq (v:Value) (n i a:Nat) (xs u:List Value) (w:World) (b:w.ownsRow 0 167 8 v n xs) (r:i<=n) (j:n<=1000000) (k:∀ x ∈ xs,x.oneCell'=true) (h:u.length=8) (d:∀ x ∈ u,x.oneCell'=true) (f:w.heap[a]?=some (.cells u.toArray 167 (0,0))) (l:v.ownBlock≠some a) : Calls Tryz.prog 114 #[v,.int .i64 i,.slice (some ⟨a,0,none⟩) 1 1] w (Qd7 w v n (xs.take (i*8)++u++xs.drop (i*8))):=by
 have p:=b.1;by_cases e:i=n
 ·have m:xs.take (i*8)++u++xs.drop (i*8)=xs++u:=by rw [take_of_length_le (by omega),drop_of_length_le (by omega),append_nil]
  rw [m];exact Qs2 v n i a xs u w b e j h d f
 rcases b.2 with ⟨_,s⟩|⟨g,c,q,rfl,_⟩
 ·omega
 by_cases o:n+1<=c
 ·exact QtX g n c i a xs u w b (by omega) o k h d f (λe=>l (by rw [e];rfl))
 exact Qo2 g n c i a xs u w b (by omega) (by omega) j k h d f
def Qpf (u f:Nat) (x:Qm) (a:List Qm) (v:Value) (w:World) (e:Ending) (w':World):Prop :=
  e=.returned (.tuple #[])/\∃ (p:Nat) (c:Value) (w2:World),p<=a.length/\(∀ i,(d:i<a.length)->i<p->a[i].t<x.t)/\(∀ i,(d:i<a.length)->p<=i->x.t<=a[i].t)/\w'=w2.setCell ⟨u,f+2,none⟩ c/\w2.ownsRow 0 167 8 c (a.length+1) (QH (a.take p++[x]++a.drop p))/\Qx (λb=>v.ownBlock=some b) w w2/\(c.ownBlock=v.ownBlock \/ ∃ b,c.ownBlock=some b/\w.heap.size<=b)
theorem Qtm (a:List Qm) (p:Nat):(QH a).take (p*8)=QH (a.take p):=by
 induction a generalizing p with
 | nil=>simp [QH]
 | cons b a ih =>
  cases p with
  | zero=>simp [QH]
  | succ p =>
   have e:QH (b::a)=b.cells++QH a:=by unfold QH;rw [flatMap_cons]
   have c:QH (b::a.take p)=b.cells++QH (a.take p):=by unfold QH;rw [flatMap_cons]
   rw [take_succ_cons,e,c,<- ih p,List.take_append,take_of_length_le (by show 8<=_;omega)];congr 2
   show (p+1)*8-8=_;omega
theorem Qi0 (a:List Qm) (p:Nat):(QH a).drop (p*8)=QH (a.drop p):=by
 induction a generalizing p with
 | nil=>simp [QH]
 | cons b a ih =>
  cases p with
  | zero=>simp
  | succ p =>
   have e:QH (b::a)=b.cells++QH a:=by unfold QH;rw [flatMap_cons]
   rw [drop_succ_cons,e,<- ih p,drop_append,drop_of_length_le (by show 8<=_;omega),nil_append];congr 1
   show (p+1)*8-8=_;omega
theorem QhQ {w:World} {j g n c:Nat} {a:List Qm} (h:w.ownsRow j 167 8 (.slice (some ⟨g,0,none⟩) n c) n (QH a)) (k:n=a.length) (m:Nat) (b:m<a.length):w.rangeAt g (m*8) a[m].cells:=λr v d=>by
 have l:r<8:=(List.getElem?_eq_some_iff.1 d).1;have f:=h.cellAt (m*8+r) (by omega);rw [f];have key:∀ (a:List Qm) (m:Nat),(b:m<a.length)->(QH a)[m*8+r]?=(a[m]).cells[r]?:=by
  intro a;induction a with
  | nil=>intro m b;exact absurd b (Nat.not_lt_zero _)
  | cons x a ih =>
   intro m b;have e:QH (x::a)=x.cells++QH a:=by unfold QH;rw [flatMap_cons]
   rw [e];cases m with
   | zero=>rw [getElem?_append_left (by show 0*8+r<8;omega)];simp
   | succ m =>
    rw [getElem?_append_right (by show 8<=_;omega)];have i:(m+1)*8+r-x.cells.length=m*8+r:=by show _-8=_;omega
    rw [i,ih m (by simpa using b)];rfl
 rw [key a m b];exact d
theorem Qtp (u f:Nat) (x:Qm) (l:List Qm) (ao:Option Addr) (n c:Nat) (w:World) (r:n=l.length) (aH:n<=48) (ay:Ups l) (az:0<=x.t/\x.t<=1000000) (aA:∀ a7,a7 ∈ l->0<=a7.t/\a7.t<=1000000) (y:w.ownsRow 0 167 8 (.slice ao n c) n (QH l)) (aB:w.cell? ⟨u,f+2,none⟩=some (.slice ao n c)) (aC:w.frozen? ⟨u,f+2,none⟩=false) (aD:u<w.heap.size) (aa:(Value.slice ao n c).ownBlock≠some u) : Calls Tryz.prog 81 #[.pointer (some ⟨u,f,none⟩),.agg #[.int .i64 x.a.kd,.int .i64 x.a.nm,.int .i64 x.a.pa,.int .i64 x.a.fl,.int .i64 x.a.n,.int .i64 x.a.m,.int .i64 x.t,.int .i64 x.g]] w (Qpf u f x l (.slice ao n c) w):=by
 have M:=(Below.refl w.heap.size w).alloc (Nat.le_refl _) (.cells #[.int .i64 x.a.kd,.int .i64 x.a.nm,.int .i64 x.a.pa,.int .i64 x.a.fl,.int .i64 x.a.n,.int .i64 x.a.m,.int .i64 x.t,.int .i64 x.g] 167);have k:(w.alloc (.cells #[.int .i64 x.a.kd,.int .i64 x.a.nm,.int .i64 x.a.pa,.int .i64 x.a.fl,.int .i64 x.a.n,.int .i64 x.a.m,.int .i64 x.t,.int .i64 x.g] 167)).heap[w.heap.size]?=some (.cells #[.int .i64 x.a.kd,.int .i64 x.a.nm,.int .i64 x.a.pa,.int .i64 x.a.fl,.int .i64 x.a.n,.int .i64 x.a.m,.int .i64 x.t,.int .i64 x.g] 167 (0,0)):=heap_alloc_new w _;have ab:Hid (∀ j,Below w.heap.size w j->Calls Tryz.prog 112 #[.slice ao n c,.int .i64 x.t,.func (.func 113) #[] #[]] j (Qj2 l n x.t j)):=Qa λj N=>Qoa ao n c l x.t j r aH ay az aA λm aR=>by
  rcases y.2 with ⟨_,e⟩|⟨g,cap,b3,e,_,aS,_⟩
  ·omega
  obtain ⟨rfl,_,rfl⟩:=Value.slice.inj e;have aI:=Zi y N;exact ⟨g,rfl,Nat.lt_of_lt_of_le (QN aS) N.size,QhQ aI r m aR⟩
 have ac:Hid (∀ (j:World) (p z:Nat),Below w.heap.size w j->p<=n->w.heap.size<=z->j.heap[z]?=some (.cells #[.int .i64 x.a.kd,.int .i64 x.a.nm,.int .i64 x.a.pa,.int .i64 x.a.fl,.int .i64 x.a.n,.int .i64 x.a.m,.int .i64 x.t,.int .i64 x.g] 167 (0,0))->Calls Tryz.prog 114 #[.slice ao n c,.int .i64 p,.slice (some ⟨z,0,none⟩) 1 1] j (Qd7 j (.slice ao n c) n ((QH l).take (p*8)++[.int .i64 x.a.kd,.int .i64 x.a.nm,.int .i64 x.a.pa,.int .i64 x.a.fl,.int .i64 x.a.n,.int .i64 x.a.m,.int .i64 x.t,.int .i64 x.g]++(QH l).drop (p*8)))):=Qa λj p z N O b4 k=>by refine Qnq (.slice ao n c) n p z (QH l) [.int .i64 x.a.kd,.int .i64 x.a.nm,.int .i64 x.a.pa,.int .i64 x.a.fl,.int .i64 x.a.n,.int .i64 x.a.m,.int .i64 x.t,.int .i64 x.g] j (Zi y N) O (by omega) (Qlh l) rfl (by simp [Value.oneCell']) k (λe=>?_);have:=(y.lt z e).2;omega
 have aG:Hid (∀ b,(Value.slice ao n c).ownBlock=some b->b<w.heap.size):=Qa λb e=>(y.lt b e).2;have aT:=(M.cell (p:=⟨u,f+2,none⟩) aD).trans aB;have aU:=(M.frozen (p:=⟨u,f+2,none⟩) aD).trans aC;have q0:=Qf k 0 _ rfl;have aV:=Qf k 1 _ rfl;have aW:=Qf k 2 _ rfl;have aX:=Qf k 3 _ rfl;have aY:=Qf k 4 _ rfl;have aZ:=Qf k 5 _ rfl;have b0:=Qf k 6 _ rfl;have b1:=Qf k 7 _ rfl;have ad:=Qa M;have aE:=Qa r;have aJ:=Qa aa;clear r ay aA y aB aC k M aa az;go_enter Tryz.func81,Tryz.ntmps81;go_wp2_with fail;have b5:w.heap.size<(w.alloc (.cells #[.int .i64 x.a.kd,.int .i64 x.a.nm,.int .i64 x.a.pa,.int .i64 x.a.fl,.int .i64 x.a.n,.int .i64 x.a.m,.int .i64 x.t,.int .i64 x.g] 167)).heap.size:=by simp
 generalize (w.alloc (.cells #[.int .i64 x.a.kd,.int .i64 x.a.nm,.int .i64 x.a.pa,.int .i64 x.a.fl,.int .i64 x.a.n,.int .i64 x.a.m,.int .i64 x.t,.int .i64 x.g] 167))=w1 at *;generalize b6:w.heap.size=d at *
 go_region_held3 (λw':World=>w'.frozen? ⟨u,f+2,none⟩=false/\w'.cell? ⟨u,f+2,none⟩=some (.slice ao n c)/\w'.cell? ⟨d,0,none⟩=some (.int .i64 x.a.kd)/\w'.cell? ⟨d,1,none⟩=some (.int .i64 x.a.nm)/\w'.cell? ⟨d,2,none⟩=some (.int .i64 x.a.pa)/\w'.cell? ⟨d,3,none⟩=some (.int .i64 x.a.fl)/\w'.cell? ⟨d,4,none⟩=some (.int .i64 x.a.n)/\w'.cell? ⟨d,5,none⟩=some (.int .i64 x.a.m)/\w'.cell? ⟨d,6,none⟩=some (.int .i64 x.t)/\w'.cell? ⟨d,7,none⟩=some (.int .i64 x.g))
   (first
     | go_keep
     | (go_split_ands
        refine ⟨?_,?_,?_,?_,?_,?_,?_,?_,?_,?_⟩
        · (rw [A.frozen (by simp;omega)];assumption)
        all_goals (rw [A.cell (by simp;omega)];assumption)))
   (first|(go_at_call 112;refine (ab.out _ ad.out.drew).mono ?_;rintro e w2 ⟨p,b8,rfl,O,ae,af,A⟩;have aK:=Qa ae;have aL:=Qa af;clear ae af))
 obtain ⟨C,D,E,F,G,H,I,J,K,L⟩:w2.frozen? ⟨u,f+2,none⟩=false/\w2.cell? ⟨u,f+2,none⟩=some (.slice ao n c)/\w2.cell? ⟨d,0,none⟩=some (.int .i64 x.a.kd)/\w2.cell? ⟨d,1,none⟩=some (.int .i64 x.a.nm)/\w2.cell? ⟨d,2,none⟩=some (.int .i64 x.a.pa)/\w2.cell? ⟨d,3,none⟩=some (.int .i64 x.a.fl)/\w2.cell? ⟨d,4,none⟩=some (.int .i64 x.a.n)/\w2.cell? ⟨d,5,none⟩=some (.int .i64 x.a.m)/\w2.cell? ⟨d,6,none⟩=some (.int .i64 x.t)/\w2.cell? ⟨d,7,none⟩=some (.int .i64 x.g):=by assumption
 have b7:w1.heap.size<=w2.heap.size:=A.size;have ag:Hid (Below d w w2):=Qa (by have aF:=ad.out;exact aF.trans (((Below.refl w1.heap.size w1).drew.trans A).mono (by have:=aF.size;omega)));clear aT aU q0 aV aW aX aY aZ b0 b1 A ab;go_wp2_with fail;have ah:(λw':World=>w'.frozen? ⟨u,f+2,none⟩=false/\w'.cell? ⟨u,f+2,none⟩=some (.slice ao n c)/\w'.cell? ⟨d,0,none⟩=some (.int .i64 x.a.kd)/\w'.cell? ⟨d,1,none⟩=some (.int .i64 x.a.nm)/\w'.cell? ⟨d,2,none⟩=some (.int .i64 x.a.pa)/\w'.cell? ⟨d,3,none⟩=some (.int .i64 x.a.fl)/\w'.cell? ⟨d,4,none⟩=some (.int .i64 x.a.n)/\w'.cell? ⟨d,5,none⟩=some (.int .i64 x.a.m)/\w'.cell? ⟨d,6,none⟩=some (.int .i64 x.t)/\w'.cell? ⟨d,7,none⟩=some (.int .i64 x.g)) w2.drew:=⟨C,D,E,F,G,H,I,J,K,L⟩;refine Zm (S:=(λw':World=>w'.frozen? ⟨u,f+2,none⟩=false/\w'.cell? ⟨u,f+2,none⟩=some (.slice ao n c)/\w'.cell? ⟨d,0,none⟩=some (.int .i64 x.a.kd)/\w'.cell? ⟨d,1,none⟩=some (.int .i64 x.a.nm)/\w'.cell? ⟨d,2,none⟩=some (.int .i64 x.a.pa)/\w'.cell? ⟨d,3,none⟩=some (.int .i64 x.a.fl)/\w'.cell? ⟨d,4,none⟩=some (.int .i64 x.a.n)/\w'.cell? ⟨d,5,none⟩=some (.int .i64 x.a.m)/\w'.cell? ⟨d,6,none⟩=some (.int .i64 x.t)/\w'.cell? ⟨d,7,none⟩=some (.int .i64 x.g))) (by kernel_rfl) ?_;iterate 7
  apply Q0 ?_ ah ?_;rotate_left
  ·(intro w' hSw;(try obtain ⟨C,D,E,F,G,H,I,J,K,L⟩:=hSw);simp only [getElem_toArray,getElem_cons_zero,getElem_cons_succ];go_simp;try (with_reducible rfl))
  simp only [getElem_toArray,getElem_cons_zero,getElem_cons_succ,Act.put,setIfInBounds_toArray,set_cons_zero,set_cons_succ]
 refine Qq 7 ?_;simp only [getElem_toArray,getElem_cons_zero,getElem_cons_succ];go_simp;have a8:(w2.alloc (.cells #[.int .i64 x.a.kd,.int .i64 x.a.nm,.int .i64 x.a.pa,.int .i64 x.a.fl,.int .i64 x.a.n,.int .i64 x.a.m,.int .i64 x.t,.int .i64 x.g] 167)).heap[w2.heap.size]?=some (.cells #[.int .i64 x.a.kd,.int .i64 x.a.nm,.int .i64 x.a.pa,.int .i64 x.a.fl,.int .i64 x.a.n,.int .i64 x.a.m,.int .i64 x.t,.int .i64 x.g] 167 (0,0)):=heap_alloc_new w2 _;have i:Below w2.heap.size w2 (w2.alloc (.cells #[.int .i64 x.a.kd,.int .i64 x.a.nm,.int .i64 x.a.pa,.int .i64 x.a.fl,.int .i64 x.a.n,.int .i64 x.a.m,.int .i64 x.t,.int .i64 x.g] 167)):=(Below.refl _ _).alloc (Nat.le_refl _) _;have b9:(w2.alloc (.cells #[.int .i64 x.a.kd,.int .i64 x.a.nm,.int .i64 x.a.pa,.int .i64 x.a.fl,.int .i64 x.a.n,.int .i64 x.a.m,.int .i64 x.t,.int .i64 x.g] 167)).heap.size=w2.heap.size+1:=by simp
 have ai:u<w2.heap.size:=by omega
 have q:d<w2.heap.size:=by omega
 generalize (w2.alloc (.cells #[.int .i64 x.a.kd,.int .i64 x.a.nm,.int .i64 x.a.pa,.int .i64 x.a.fl,.int .i64 x.a.n,.int .i64 x.a.m,.int .i64 x.t,.int .i64 x.g] 167))=v at *;have P:=(i.frozen (p:=⟨u,f+2,none⟩) ai).trans C;have R:=(i.cell (p:=⟨u,f+2,none⟩) ai).trans D;have T:=(i.cell (p:=⟨d,0,none⟩) q).trans E;have U:=(i.cell (p:=⟨d,1,none⟩) q).trans F;have V:=(i.cell (p:=⟨d,2,none⟩) q).trans G;have W:=(i.cell (p:=⟨d,3,none⟩) q).trans H;have X:=(i.cell (p:=⟨d,4,none⟩) q).trans I;have Y:=(i.cell (p:=⟨d,5,none⟩) q).trans J;have a0:=(i.cell (p:=⟨d,6,none⟩) q).trans K;have a1:=(i.cell (p:=⟨d,7,none⟩) q).trans L;refine ⟨.inr ⟨P,R,T,U,V,W,X,Y,a0,a1⟩,?_⟩;have aj:=Qa (ac.out v.drew p w2.heap.size (ag.out.trans (i.drew.mono (by omega))) O (by omega) a8);clear ah a8 C D E F G H I J K L;refine Qq 8 ?_;simp only [getElem_toArray,getElem_cons_zero,getElem_cons_succ];go_simp;refine aj.out.mono ?_;rintro e a5 ⟨ba,rfl,a2,a3,a9⟩;have a6:∀ b,b<v.heap.size->(Value.slice ao n c).ownBlock≠some b->a5.heap[b]?=v.heap[b]?:=λb hb r=>a3.block b hb (λe=>r e.symm);have a4:=a6 u (by omega) aJ.out;have o:=a6 d (by omega) (λe=>by have:=aG.out d e;omega);have aM:=(World.frozen?_of_block (a:=⟨u,f+2,none⟩) a4).trans P;have aN:=(World.cell?_of_block (a:=⟨u,f+2,none⟩) a4).trans R;have ak:=(World.cell?_of_block (a:=⟨d,0,none⟩) o).trans T;have al:=(World.cell?_of_block (a:=⟨d,1,none⟩) o).trans U;have ap:=(World.cell?_of_block (a:=⟨d,2,none⟩) o).trans V;have aq:=(World.cell?_of_block (a:=⟨d,3,none⟩) o).trans W;have ar:=(World.cell?_of_block (a:=⟨d,4,none⟩) o).trans X;have au:=(World.cell?_of_block (a:=⟨d,5,none⟩) o).trans Y;have av:=(World.cell?_of_block (a:=⟨d,6,none⟩) o).trans a0;have aw:=(World.cell?_of_block (a:=⟨d,7,none⟩) o).trans a1;have ax:(λw':World=>w'.frozen? ⟨u,f+2,none⟩=false/\w'.cell? ⟨u,f+2,none⟩=some (.slice ao n c)/\w'.cell? ⟨d,0,none⟩=some (.int .i64 x.a.kd)/\w'.cell? ⟨d,1,none⟩=some (.int .i64 x.a.nm)/\w'.cell? ⟨d,2,none⟩=some (.int .i64 x.a.pa)/\w'.cell? ⟨d,3,none⟩=some (.int .i64 x.a.fl)/\w'.cell? ⟨d,4,none⟩=some (.int .i64 x.a.n)/\w'.cell? ⟨d,5,none⟩=some (.int .i64 x.a.m)/\w'.cell? ⟨d,6,none⟩=some (.int .i64 x.t)/\w'.cell? ⟨d,7,none⟩=some (.int .i64 x.g)) a5:=⟨aM,aN,ak,al,ap,aq,ar,au,av,aw⟩;refine ⟨.inr ax,?_⟩;obtain ⟨bb,bc,rfl⟩:=Qz a2;have aO:=Qa a2;have B:=Qa a3;have aP:=Qa a9;have aQ:=Qa i;clear a2 a3 a9 a6 a4 o P R T U V W X Y a0 a1 aj ac ak al ap aq ar au av aw;try simp only [Act.put,setIfInBounds_toArray,set_cons_zero,set_cons_succ]
 iterate 2
  apply Q0 ?_ ax ?_;rotate_left
  ·(intro w' hSw;(try obtain ⟨C,D,E,F,G,H,I,J,K,L⟩:=hSw);simp only [getElem_toArray,getElem_cons_zero,getElem_cons_succ];go_simp;try (with_reducible rfl))
  simp only [getElem_toArray,getElem_cons_zero,getElem_cons_succ,Act.put,setIfInBounds_toArray,set_cons_zero,set_cons_succ]
 refine Qq 11 ?_;simp only [getElem_toArray,getElem_cons_zero,getElem_cons_succ];go_simp;refine ⟨by kernel_rfl,?_⟩;refine Zk (by kernel_rfl) ?_ _;refine bodyPost_end (results_none rfl _ _ _) rfl ?_;have s:Below d w v:=ag.out.trans (aQ.out.mono (by omega));refine ⟨rfl,p,_,a5,by rw [<- aE.out];exact O,aK.out,aL.out,rfl,?_,?_,?_⟩
 ·have h:=aO.out;rw [Qtm,Qi0] at h;rw [Qhy,Qhy,<- aE.out];have e:QH [x]=[.int .i64 x.a.kd,.int .i64 x.a.nm,.int .i64 x.a.pa,.int .i64 x.a.fl,.int .i64 x.a.n,.int .i64 x.a.m,.int .i64 x.t,.int .i64 x.g]:=rfl;rw [e];exact h
 ·refine ⟨B.out.os.trans s.os,B.out.tape.trans s.tape,B.out.output.trans s.output,Nat.le_trans s.size B.out.size,λb hb r=>?_⟩;have b2:w.heap.size<=v.heap.size:=s.size;exact (B.out.block b (show b<v.heap.size by omega) (λe=>r e.symm)).trans (s.block b (by omega))
 rcases aP.out with e|⟨b,e,hb⟩
 ·exact .inl e
 have b2:v.heap.size<=b:=hb;exact .inr ⟨b,e,by have:=s.size;omega⟩
theorem QhG (u:Nat) (b:Option Addr) (a c:Nat) (w:World) (h:w.cell? ⟨u,154,none⟩=some (.slice b a c)) : Calls Tryz.prog 42 #[.pointer (some ⟨u,0,none⟩)] w λe w'=>e=.returned (.int .i64 a)/\w'=w:=by go_enter Tryz.func42,Tryz.ntmps42;go_wp2;go_ret;exact ⟨rfl,rfl⟩
theorem Qt2 (u:Nat) (a:Option Addr) (b:Nat) (w:World) (h:w.cell? ⟨u,154,none⟩=some (.slice a 0 b)) : Calls Tryz.prog 78 #[.pointer (some ⟨u,0,none⟩)] w λe w'=>e=.returned (.int .i64 0)/\Below w.heap.size w w':=by go_enter Tryz.func78,Tryz.ntmps78;go_wp2;go_ret;exact ⟨rfl,Below.refl _ _⟩
theorem QtD (u:Nat) (g a b:Nat) (x:Int) (w:World) (h:w.cell? ⟨u,154,none⟩=some (.slice (some ⟨g,0,none⟩) (a+1) b)) (c:w.cell? ⟨g,a*2,none⟩=some (.int .i64 x)) (d:a<1000000) : Calls Tryz.prog 78 #[.pointer (some ⟨u,0,none⟩)] w λe w'=>e=.returned (.int .i64 x)/\Below w.heap.size w w':=by
 have f:(((a+1:Nat):Int)==0)=false:=by simp;omega
 have i:IntKind.i64.wrap ((a+1:Nat):Int)=(a:Int)+1:=by rw [IntKind.wrap_i64];omega
 have j:(0:Int)<=(a:Int):=by omega
 have k:(a:Int)<((a+1:Nat):Int):=by omega
 go_enter Tryz.func78,Tryz.ntmps78;go_wp2;go_big_quiet (fail);go_wp2;go_ret;exact ⟨rfl,QL (Below.refl _ _) _⟩
theorem Qpd (u a:Nat) (g:Int) (w:World) (h:w.cell? ⟨u,a,none⟩=some (.int .i64 g)) (c:w.frozen? ⟨u,a,none⟩=false) (d:g+1<=4611686018427387904) (b:0<=g) : Calls Tryz.prog 79 #[.pointer (some ⟨u,a,none⟩)] w λe w'=>e=.returned (.int .i64 (g+1))/\w'=w.setCell ⟨u,a,none⟩ (.int .i64 (g+1)):=by
 have f:IntKind.i64.wrap (g+1)=g+1:=by rw [IntKind.wrap_i64];omega
 go_enter Tryz.func79,Tryz.ntmps79;go_wp2;go_ret;exact ⟨rfl,rfl⟩
end Go.Proofs.YtobgcaemnpkbmaaGreatDoor
