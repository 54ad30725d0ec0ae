import Derived.Test.YtobgcaemnpkbmaaGreatY05
namespace Go.Proofs.YtobgcaemnpkbmaaGreat
set_option maxRecDepth 100000
set_option maxHeartbeats 8000000
open Go.RowKit List
variable {b j m n o:Nat} {X:Nat->Qh} {ao:Option Addr} {x:Qh} {w w':World}
def Qev (w:World) (v:Value) (n:Nat) (c:List Value) (e:Ending) (w':World):Prop :=
 ∃ a,e=.returned a/\w'.ownsRow 0 72 2 a (n+1) c/\w.grownBy w' v.ownBlock/\(a.ownBlock=v.ownBlock \/ ∃ b,a.ownBlock=some b/\w.heap.size<=b)
theorem Qua (v:Value) (n i f:Nat) (h u:List Value) (w:World) (b:w.ownsRow 0 72 2 v n h) (I:i=n) (S:n<=1000000) (B:u.length=2) (o:∀ x ∈ u,x.oneCell'=true) (p:w.heap[f]?=some (.cells u.toArray 72 (0,0))) : Xl 107 #[v,Xi i,Xe f 1 1] w (Qev w v n (h++u)):=by
 obtain ⟨C,q,r,s,t⟩:=info_parts Qcr;obtain ⟨ao,c,rfl⟩:=Qy b;have y:n<=c:=by
  rcases b.2 with ⟨e,P⟩|⟨J,G,H,e,K,L,y,_⟩
  ·omega
  simp only [Value.slice.injEq] at e;obtain ⟨_,_,rfl⟩:=e;exact y
 have z:c<=9223372036854775807:=by
  rcases b.2 with ⟨e,P⟩|⟨J,G,H,e,K,L,_,z,_⟩
  ·simp only [Value.slice.injEq] at e;omega
  simp only [Value.slice.injEq] at e;obtain ⟨_,_,rfl⟩:=e;unfold maxLen at z;omega
 have m:∀ a,some ((Xa f 0):Addr)=some a->∀ j x,u[j]?=some x->w.cell? (a.add j)=some x:=λa e j x M=>by cases e;rw [JO,Nat.zero_add];simp only [World.cell?,p];simpa using M
 have D:=Qa b;have E:=Qa m;have F:=Qa B;have A:=Qa o;subst I;clear b m p B o;cases ao with
 | none =>go_enter Tryz.func107,Tryz.ntmps107;go_wp2_with (first|(at_builtin;refine Zp _ rfl _ _ 31 rfl 0 72 C _ 2 32 Tryz.underlying31 q r s t rfl (.slice none i c) i h rfl (Qb D) (some (Xa f 0)) 1 1 u rfl (by simp) (by rw [Qb F]) (Qb E) (Qb A) (by omega) (by omega) X3 ?_;intro l w4 k d _));all_goals (go_ret;exact ⟨l,rfl,k.out,d.out.by,d.out.at.imp id λe=>⟨_,e,X0⟩⟩)
 | some N =>obtain ⟨g,R,O⟩:=N;go_enter Tryz.func107,Tryz.ntmps107;go_wp2_with (first|(at_builtin;refine Zp _ rfl _ _ 31 rfl 0 72 C _ 2 32 Tryz.underlying31 q r s t rfl (.slice (some ⟨g,R,O⟩) i c) i h rfl (Qb D) (some (Xa f 0)) 1 1 u rfl (by simp) (by rw [Qb F]) (Qb E) (Qb A) (by omega) (by omega) X3 ?_;intro l w4 k d _));all_goals (go_ret;exact ⟨l,rfl,k.out,d.out.by,d.out.at.imp id λe=>⟨_,e,X0⟩⟩)
theorem QpY (g n c i k:Nat) (a u:List Value) (w:World) (o:w.ownsRow 0 72 2 (Xe g n c) n a) (aB:i<n) (a3:n+1<=c) (af:∀ x ∈ a,x.oneCell'=true) (z:u.length=2) (a5:∀ x ∈ u,x.oneCell'=true) (C:w.heap[k]?=some (.cells u.toArray 72 (0,0))) (O:k≠g) : Xl 107 #[Xe g n c,Xi i,Xe k 1 1] w (Qev w (Xe g n c) n (a.take (i*2)++u++a.drop (i*2))):=by
 obtain ⟨aC,a6,ao,a7,ap⟩:=info_parts Qcr;obtain ⟨a8,M,R,aq,a9⟩:=Qee o;have ak:c<=9223372036854775807:=by unfold maxLen at a9;omega
 have F:=o.1;obtain ⟨D,S,B⟩:=QmM o (m:=n+1) (by omega) a3;have T:(Tryz.prog.info? 72).map (·.size)=some 2:=by rw [a6];simp [a7]
 have U:∀ j x,u[j]?=some x->w.cell? (Xa k j)=some x:=λj x d=>by simp only [World.cell?,C];simpa using d
 have aa:∀ H I,(callFunc 124 #[Xe k 1 1,.slice (some (Xa g ((i+1)*2))) H I]).run Tryz.prog w=.ok (.value (.bool false)) w:=λH I=>by rw [run_callFunc_extern Tryz.func124 (by kernel_rfl) (by kernel_rfl) (by kernel_rfl) (e:=Extern.SlicesOverlaps.overlaps #[31,31] #[4]) (by kernel_rfl), Lib.run_overlaps_apart w 31 4 72 Tryz.underlying31 2 (λw=>Tryz.sizeOf72 w) (Xa k 0) (Xa g ((i+1)*2)) 1 1 H I O 72 72 u.toArray.size a8.size (by unfold World.shape?;rw [C]) (by unfold World.shape?;rw [M]) (by rw [R];omega) (by simp [World.frozen?,C]) (by simp [World.frozen?,C])];rfl
 have V:∀ j,j<(n+1)*2->(w.cell? (Xa g j)).isSome=true:=λj A=>by rw [B.cellAt j A,getElem?_eq_getElem (by rw [B.1];exact A)];rfl
 have W:∀ j,Xf w g j:=λj=>o.frozenAt j;obtain ⟨f,p⟩:∃ f,f=a.drop (i*2):=⟨_,rfl⟩;have E:f.length=(n-i)*2:=by rw [p,length_drop,F];omega
 have K:Nat.min (n+1-i) (n-i)=n-i:=by show min _ _=_;omega
 have N:∀ ty l J,(Builtin.copy_ #[31,31] ty #[.slice (some (Xa g ((i+1)*2))) (n-i) l,.slice (some (Xa g (i*2))) (n+1-i) J]).run Tryz.prog w.drew=.ok (goInt ((n-i:Nat):Int)) (w.drew.setCells g ((i+1)*2) f):=λty l J=>by
  have h:=Qdz (P:=Tryz.prog) w.drew 31 31 ty 72 2 g ((i+1)*2) (n-i) l (Xa g (i*2)) (n+1-i) J f Tryz.underlying31 T (by rw [K];exact E)
   (λj x d=>by
    have ar:=(Xd3.1 d).1
    rw [JO]
    show w.cell? _=_
    rw [p,getElem?_drop] at d
    rw [o.cellAt _ (by omega)]
    exact d)
   (λj A=>V _ (by omega)) (λj _=>W _) (λx d=>af x (by rw [p] at d;exact mem_of_mem_drop d))
  rw [K] at h;exact h
 obtain ⟨r,t⟩:∃ r,r=w.drew.setCells g ((i+1)*2) f:=⟨_,rfl⟩;rw [<- t] at N;have v:r.ownsRow 0 72 2 (Xe g (n+1) c) (n+1) (Z2 (a++D) ((i+1)*2) f):=by rw [t];exact QbM f ((i+1)*2) B.drew
 have G:=QaQ g f ((i+1)*2) w.drew;rw [<- t] at G;have X:(Z2 (a++D) ((i+1)*2) f).length=(n+1)*2:=v.1;have L:Nat.min 1 (n+1-i)=1:=by show min _ _=_;omega
 have a4:∀ (s:World),(∀ x,s.cell? x=r.cell? x)->(∀ x,s.frozen? x=r.frozen? x)->∀ ty l,(Builtin.copy_ #[31,31] ty #[.slice (some (Xa g (i*2))) (n+1-i) l,Xe k 1 1]).run Tryz.prog s=.ok (goInt 1) (s.setCells g (i*2) u):=λs Y ab ty l=>by
  have h:=Qdz (P:=Tryz.prog) s 31 31 ty 72 2 g (i*2) (n+1-i) l (Xa k 0) 1 1 u Tryz.underlying31 T (by rw [L,z])
   (λj x d=>by
    rw [JO,Nat.zero_add,Y,t,World.cell?_setCells_out g _ _ _ _ (λh _=>absurd h O)]
    exact U j x d)
   (λj A=>by rw [Y,v.cellAt _ (by omega),getElem?_eq_getElem (by rw [X];omega)];rfl) (λj A=>by rw [ab];exact v.frozenAt _) a5
  rw [L] at h;exact h
 have ac:=Qa v;have q:=Qa G;have ag:=Qa F;have ad:=Qa E;have ah:=Qa p;have ai:=Qa z;have ae:=Qa S;have au:¬ (c=i+1):=by omega
 have av:¬ (c=i):=by omega
 have al:¬ ((i:Int)=(n:Int)):=by omega
 have aw:IntKind.i64.wrap ((i:Int)+1)=(i:Int)+1:=by rw [IntKind.wrap_i64];omega
 have ax:i<=n:=by omega
 have ay:((i:Int)+1).toNat=i+1:=by omega
 have az:(i:Int)<=(n:Int)+1:=by omega
 have aA:(0:Int)<=(i:Int)+1:=by omega
 have aj:¬ ((c:Int)<(n:Int)+1):=by omega
 clear o B V W v G X M U F E p z S t R;go_enter Tryz.func107,Tryz.ntmps107;go_wp2_with (simp only [aa]);go_region_law (refine step_copy_runI rfl _ _ 31 31 rfl _ _ (by simp [Act.eval,Act.put]) (by simp [Act.eval,Act.put]) (N _ _ _) ?_);go_wp2_with (at_builtin;refine wpList_copy_runI _ rfl _ _ 31 31 rfl _ _ rfl rfl (a4 _ (λ_=>rfl) (λ_=>rfl) _ _) ?_);go_ret;have a0:=QbM u (i*2) ac.out;have y:=QaQ g u (i*2) r;have d:=ag.out;have aD:=ae.out;have z:=ai.out;have p:=ad.out;refine ⟨Xe g (n+1) c,rfl,?_,⟨y.1.os.trans q.out.1.os,y.1.tape.trans (q.out.1.tape.trans rfl),y.1.output.trans q.out.1.output,?_,λb a1 a2=>(y.1.block b (by rw [q.out.2];exact a1) a2).trans (q.out.1.block b a1 a2)⟩,.inl rfl⟩
 ·have e:Z2 (Z2 (a++D) ((i+1)*2) f) (i*2) u=a.take (i*2)++u++a.drop (i*2):=by have h:=Qkc a D u (i*2) 2 (by omega) z (by omega);rw [<- ah.out] at h ⊢;rw [show i*2+2=(i+1)*2 by omega] at h;exact h
  rw [e] at a0;exact a0
 rw [y.2,q.out.2];exact X0
theorem Qr0 (g n c i o:Nat) (f u:List Value) (w:World) (s:w.ownsRow 0 72 2 (Xe g n c) n f) (aR:i<n) (ae:c<n+1) (aA:n<=1000000) (A:∀ x ∈ f,x.oneCell'=true) (M:u.length=2) (ah:∀ x ∈ u,x.oneCell'=true) (H:w.heap[o]?=some (.cells u.toArray 72 (0,0))) : Xl 107 #[Xe g n c,Xi i,Xe o 1 1] w (Qev w (Xe g n c) n (f.take (i*2)++u++f.drop (i*2))):=by
 obtain ⟨ab,a1,ai,a2,a3⟩:=info_parts Qcr;obtain ⟨aE,V,aj,aF,aG⟩:=Qee s;have a4:=s.1;have ak:g<w.heap.size:=(Xd0.1 V).1;have al:o<w.heap.size:=(Xd0.1 H).1;have a5:(Tryz.prog.info? 72).map (·.size)=some 2:=by rw [a1];simp [a2]
 have a6:∀ j x,u[j]?=some x->w.cell? (Xa o j)=some x:=λj x k=>by simp only [World.cell?,H];simpa using k
 have a7:(n:Int)+1-(i:Int)=((n+1-i:Nat):Int):=by omega
 have I:i+(n+1-i)=n+1:=by omega
 have W:(Builtin.firstCells ab.size i (Xe g i c)).run Tryz.prog w.drew=.ok (f.take (i*2)).toArray w.drew:=by
  rw [a2];exact run_firstCells_some w.drew 2 i (Xa g 0) i c (f.take (i*2)) (by rw [length_take];omega) (λj x p=>by
   rw [JO,Nat.zero_add];show w.cell? _=_;rw [getElem?_take] at p;split at p
   ·rw [s.cellAt j (by omega)];exact p
   cases p)
 have E:∀ ty,(Builtin.append_ #[31,3] ty #[Xe g i c,Xi ((n:Int)+1-(i:Int))]).run Tryz.prog w = .ok (Xe w.heap.size (n+1) (grownCap w (n+1) c 72)) (w.drew.alloc (.cells ((f.take (i*2)).toArray++Builtin.zeroCells ((.agg #[Xo,Xo]):Value).cells (n+1-i)++Builtin.zeroCells ((.agg #[Xo,Xo]):Value).cells (grownCap w (n+1) c 72-(n+1))) 72)):=λty=>by have m:=Lib.run_append_grow_zeros w 31 3 ty 72 ab _ .i64 .i64 Tryz.underlying31 Tryz.underlying3 a1 ai (some (Xa g 0)) i c (f.take (i*2)) W (n+1-i) (by omega) (by omega) (by omega) (by omega) (by rw [a3];omega) (by rw [a3,I];exact growslice_fits ae (by omega));rw [I] at m;rw [a7];exact m
 obtain ⟨G,F⟩:∃ G,G=grownCap w (n+1) c 72:=⟨_,rfl⟩;have ao:n+1<=G:=by rw [F];exact grownCap_ge w _ _ _
 have a8:G<=maxLen:=by rw [F];exact grownCap_le_maxLen w (n+1) c 72 (by unfold maxLen;omega)
 have aB:G<=9223372036854775807:=by unfold maxLen at a8;omega
 obtain ⟨a,B⟩:∃ a:Array Value,a=(f.take (i*2)).toArray++Builtin.zeroCells ((.agg #[Xo,Xo]):Value).cells (n+1-i)++Builtin.zeroCells ((.agg #[Xo,Xo]):Value).cells (G-(n+1)):=⟨_,rfl⟩;rw [<- F] at E;rw [<- B] at E;have ap:(((.agg #[Xo,Xo]):Value).cells).size=2:=rfl;have a9:a.size=G*2:=by rw [B,Array.size_append,Array.size_append,size_zeroCells,size_zeroCells,ap,size_toArray,length_take];omega
 have aa:a.toList.take (i*2)=f.take (i*2):=by rw [B,Array.toList_append,Array.toList_append,append_assoc,take_append_of_le_length (by simp;omega),toList_toArray,take_take,Nat.min_self]
 obtain ⟨h,t⟩:∃ h,h=w.drew.alloc (.cells a 72):=⟨_,rfl⟩;have v:h.ownsRow 0 72 2 (Xe w.heap.size (n+1) G) (n+1) (a.toList.take ((n+1)*2)):=by refine ⟨by rw [length_take,Array.length_toList];omega,.inr ⟨w.heap.size,G,a,rfl,X3,by rw [t];exact Xc5 w.drew _,ao,a8,a9,rfl⟩⟩
 rw [<- t] at E;have C:∀ b,b<w.heap.size->h.heap[b]?=w.heap[b]?:=λb N=>by rw [t];exact heap_alloc_old w.drew _ N
 have T:Nat.min 1 (n+1-i)=1:=by show min _ _=_;omega
 have r:(a.toList.take ((n+1)*2)).length=(n+1)*2:=v.1;have ag:∀ (d:World),(∀ x,d.cell? x=h.cell? x)->(∀ x,d.frozen? x=h.frozen? x)->∀ ty q,(Builtin.copy_ #[31,31] ty #[.slice (some (Xa w.heap.size (i*2))) (n+1-i) q,Xe o 1 1]).run Tryz.prog d=.ok (goInt 1) (d.setCells w.heap.size (i*2) u):=λd y J ty q=>by
  have m:=Qdz (P:=Tryz.prog) d 31 31 ty 72 2 w.heap.size (i*2) (n+1-i) q (Xa o 0) 1 1 u Tryz.underlying31 a5 (by rw [T,M])
   (λj x k=>by
    rw [JO,Nat.zero_add,y,Xk o j (C o al)]
    exact a6 j x k)
   (λj p=>by rw [y,v.cellAt _ (by omega),getElem?_eq_getElem (by rw [r];omega)];rfl) (λj p=>by rw [J];exact v.frozenAt _) ah
  rw [T] at m;exact m
 obtain ⟨l,z⟩:∃ l,l=f.drop (i*2):=⟨_,rfl⟩;have X:l.length=(n-i)*2:=by rw [z,length_drop,a4];omega
 have D:=QbM u (i*2) v;have aq:g≠w.heap.size:=by omega
 have U:Nat.min (n-i) (n-i)=n-i:=by show min _ _=_;omega
 have Y:∀ (d:World),(∀ x,d.cell? x=(h.setCells w.heap.size (i*2) u).cell? x)->(∀ x,d.frozen? x=(h.setCells w.heap.size (i*2) u).frozen? x)->∀ ty q O,(Builtin.copy_ #[31,31] ty #[.slice (some (Xa w.heap.size ((i+1)*2))) (n-i) q,.slice (some (Xa g (i*2))) (n-i) O]).run Tryz.prog d=.ok (goInt ((n-i:Nat):Int)) (d.setCells w.heap.size ((i+1)*2) l):=λd y J ty q O=>by
  have m:=Qdz (P:=Tryz.prog) d 31 31 ty 72 2 w.heap.size ((i+1)*2) (n-i) q (Xa g (i*2)) (n-i) O l Tryz.underlying31 a5 (by rw [U];exact X)
   (λj x k=>by
    have aH:=(Xd3.1 k).1
    rw [JO,y,World.cell?_setCells_out _ _ _ _ _ (λm _=>absurd m aq),Xk g _ (C g ak)]
    rw [z,getElem?_drop] at k
    rw [s.cellAt _ (by omega)]
    exact k)
   (λj p=>by rw [y,D.cellAt _ (by omega),getElem?_eq_getElem (by rw [QcQ,r];omega)];rfl)
   (λj p=>by rw [J];exact D.frozenAt _) (λx k=>A x (by rw [z] at k;exact mem_of_mem_drop k))
  rw [U] at m;exact m
 have a0:∀ d:World,d.heap=((h.setCells w.heap.size (i*2) u).setCells w.heap.size ((i+1)*2) l).heap->d.os=w.os/\d.tape=w.tape/\d.output=w.output->Qev w (Xe g n c) n (f.take (i*2)++u++f.drop (i*2)) (.returned (Xe w.heap.size (n+1) G)) d:=λd K L=>by
  have ac:=QbM l ((i+1)*2) D;have ad:=QaQ w.heap.size l ((i+1)*2) (h.setCells w.heap.size (i*2) u);have R:=QaQ w.heap.size u (i*2) h;have e:Z2 (Z2 (a.toList.take ((n+1)*2)) (i*2) u) ((i+1)*2) l=f.take (i*2)++u++f.drop (i*2):=by
   have ay:Z2 (a.toList.take ((n+1)*2)) (i*2) u=f.take (i*2)++u++(a.toList.take ((n+1)*2)).drop (i*2+u.length):=by rw [Qcs _ _ _ (by rw [r];omega),take_take,Nat.min_eq_left (by omega)];rw [aa]
   have af:(f.take (i*2)++u).length=(i+1)*2:=by rw [length_append,length_take,M];omega
   rw [Qcs _ _ _ (by rw [QcQ,r];omega),drop_of_length_le (by rw [QcQ,r];omega),append_nil,ay];have:=take_left (l₁:=f.take (i*2)++u) (l₂:=(a.toList.take ((n+1)*2)).drop (i*2+u.length));rw [af] at this;rw [this,z]
  rw [e] at ac;have ar:h.heap.size=w.heap.size+1:=by rw [t];simp
  have aI:d.heap.size=w.heap.size+1:=by rw [K,ad.2,R.2,ar]
  refine ⟨_,rfl,Q8 ac (λb _=>by rw [K]),⟨L.1,L.2.1,L.2.2,by omega,λb N _=>?_⟩,.inr ⟨w.heap.size,rfl,X0⟩⟩;rw [K];exact (ad.1.block b (by rw [R.2];omega) (λe=>by have:=Xb5 e;omega)).trans ((R.1.block b (by omega) (λe=>by have:=Xb5 e;omega)).trans (C b N))
 have az:=Qa a0;subst t;have au:∀ x,((w.alloc (.cells a 72)).drew).cell? x=(w.drew.alloc (.cells a 72)).cell? x:=λx=>rfl;have av:∀ x,((w.alloc (.cells a 72)).drew).frozen? x=(w.drew.alloc (.cells a 72)).frozen? x:=λx=>rfl;have aw:∀ x,(((w.alloc (.cells a 72)).drew.setCells w.heap.size (i*2) u).drew).cell? x=((w.drew.alloc (.cells a 72)).setCells w.heap.size (i*2) u).cell? x:=λx=>rfl;have ax:∀ x,(((w.alloc (.cells a 72)).drew.setCells w.heap.size (i*2) u).drew).frozen? x=((w.drew.alloc (.cells a 72)).setCells w.heap.size (i*2) u).frozen? x:=λx=>rfl;have aJ:(c:Int)<(n:Int)+1:=by omega
 have aK:¬ (G=i):=by omega
 have aC:¬ (G=i+1):=by omega
 have aL:¬ (c=i):=by omega
 have aD:¬ ((i:Int)=(n:Int)):=by omega
 have aM:IntKind.i64.wrap ((i:Int)+1)=(i:Int)+1:=by rw [IntKind.wrap_i64];omega
 have aN:(0:Int)<=(i:Int)+1:=by omega
 have aO:i<=n:=by omega
 have aP:((i:Int)+1).toNat=i+1:=by omega
 have aQ:(i:Int)<=(n:Int):=by omega
 clear a7 I W B F a9 s v D a0 V H a6 a4 X z M C aa r aj;go_enter Tryz.func107,Tryz.ntmps107
 go_wp2_with (first
  | (at_builtin;refine Lib.wpList_append_run _ rfl _ _ _ _ rfl _ _ rfl rfl _ _ (E _) ?_)
  | (at_builtin;refine wpList_copy_runI _ rfl _ _ 31 31 rfl _ _ rfl rfl (ag _ au av _ _) ?_)
  | (at_builtin;refine wpList_copy_runI _ rfl _ _ 31 31 rfl _ _ rfl rfl (Y _ (λ_=>rfl) (λ_=>rfl) _ _ _) ?_))
 go_region_law (refine step_copy_runI rfl _ _ 31 31 rfl (.slice (some (Xa w.heap.size ((i+1)*2))) (n-i) (G-(i+1))) (.slice (some (Xa g (i*2))) (n-i) (c-i)) (by simp [Act.eval,Act.put]) (by simp [Act.eval,Act.put]) (Y _ aw ax 3 (G-(i+1)) (c-i)) ?_);go_wp2;go_ret;have A:=(QaQ w.heap.size l ((i+1)*2) ((w.alloc (.cells a 72)).drew.setCells w.heap.size (i*2) u).drew).1;have S:=(QaQ w.heap.size u (i*2) (w.alloc (.cells a 72)).drew).1;exact az.out _ (by rw [QmE];rfl) ⟨A.os.trans S.os,A.tape.trans S.tape,A.output.trans S.output⟩
theorem Qok (v:Value) (n i b:Nat) (a u:List Value) (w:World) (d:w.ownsRow 0 72 2 v n a) (s:i<=n) (k:n<=1000000) (l:∀ x ∈ a,x.oneCell'=true) (j:u.length=2) (f:∀ x ∈ u,x.oneCell'=true) (h:w.heap[b]?=some (.cells u.toArray 72 (0,0))) (m:v.ownBlock≠some b) : Xl 107 #[v,Xi i,Xe b 1 1] w (Qev w v n (a.take (i*2)++u++a.drop (i*2))):=by
 have q:=d.1;by_cases e:i=n
 ·have o:a.take (i*2)++u++a.drop (i*2)=a++u:=by rw [take_of_length_le (by omega),drop_of_length_le (by omega),append_nil]
  rw [o];exact Qua v n i b a u w d e k j f h
 rcases d.2 with ⟨_,t⟩|⟨g,c,r,rfl,_⟩
 ·omega
 by_cases p:n+1<=c
 ·exact QpY g n c i b a u w d (by omega) p l j f h (λe=>m (by rw [e];rfl))
 exact Qr0 g n c i b a u w d (by omega) (by omega) k l j f h
theorem QiU:(Tryz.prog.info? 29).map (λi=>(i.zero,i.size,i.bytes))=some (some (.agg #[Xi 0,Xi 0,Xi 0,Xi 0,Xi 0,Xo,Xo,Xo]),8,88):=by kernel_rfl
theorem QtO:(Tryz.prog.info? 29).map (·.size)=some 8:=by kernel_rfl
def QY (x:Qh):Nat->Value
 | 0=>Xi x.kind
 | 1=>Xi x.id
 | 2=>Xi x.par
 | 3=>Xi x.bef
 | 4=>Xi x.key
 | 5=>.string x.tag
 | 6=>.string x.name
 | _=>.string x.text
def Jm (a:Nat->Qh) (j:Nat):Value:=QY (a (j / 8)) (j % 8)
theorem QcD (a:Nat->Qh) (i r:Nat) (d:r<8):Jm a (i*8+r)=QY (a i) r:=by
 unfold Jm;have b:(i*8+r) / 8=i:=by omega
 have c:(i*8+r) % 8=r:=by omega
 rw [b,c]
theorem QpM (x:Qh) (j:Nat):(QY x j).oneCell'=true:=by unfold QY;split<;>rfl
theorem Qkf (j:Nat):∃ i r,r<8/\j=i*8+r:=⟨j / 8,j % 8,by omega,by omega⟩
theorem Qnr {a:Nat->Qh} (b:X (j / 8)=a (j / 8)):Jm X j=Jm a j:=by unfold Jm;rw [b]
structure Qgp (w:World) (b o n:Nat) (X:Nat->Qh):Prop where
 lt:b<w.heap.size
 cell:∀ j,j<n*8->w.cell? (Xa b (o+j))=some (Jm X j)
def JV (w:World) (ao:Option Addr) (n:Nat) (c:Nat->Qh):Prop:=0<n->∃ b a,ao=some (Xa b a)/\Qgp w b a n c
theorem Qgp.below (a:Qgp w b o n X) (c:Xb w w'):Qgp w' b o n X := ⟨Xb4 a.lt c.size,λj d=>(Xh c b _ a.lt).trans (a.cell j d)⟩
theorem JV.below {w w':World} {ao:Option Addr} {n:Nat} {a:Nat->Qh} (f:JV w ao n a) (c:Xb w w'):JV w' ao n a:=λd =>
 let ⟨b,o,e,g⟩:=f d
 ⟨b,o,e,g.below c⟩
theorem Qqk (a:JV w ao n X) (d:0<n):∃ c,ao=some c/\∀ j,j<n*8->w.cell? (c.add j)=some (Jm X j):=by obtain ⟨b,g,e,a⟩:=a d;exact ⟨(Xa b g),e,λj f=>by rw [QdH];exact a.cell j f⟩
def Qd2:Qh:=⟨0,0,0,0,0,⟨#[115,112,97,114,101]⟩,⟨#[]⟩,⟨#[]⟩⟩
def J1 (a:Nat->Qh) (n:Nat) (i:Nat):Qh:=if i<n then a i else Qd2
theorem Qrq {f:Nat->Value}:(if j<n*8 then Jm X j else f j)=if j<n*8 then Jm (J1 X n) j else f j:=by
 by_cases a:j<n*8
 ·rw [if_pos a,if_pos a];refine Qnr ?_;unfold J1;rw [if_pos (by omega)]
 rw [if_neg a,if_neg a]
theorem Qo0 {F G:Nat->Value} (c:∀ i r,r<8->G (i*8+r)=if i=m then QY x r else F (i*8+r)) (j:Nat) :
  (if j=m*8+7 then .string x.text else if j=m*8+6 then .string x.name else if j=m*8+5 then .string x.tag else if j=m*8+4 then Xi x.key else if j=m*8+3 then Xi x.bef else if j=m*8+2 then Xi x.par else if j=m*8+1 then Xi x.id else if j=m*8 then Xi x.kind else F j)=G j:=by
 obtain ⟨i,r,a,rfl⟩:=Qkf j
 rw [c i r a]
 by_cases b:i=m
 ·subst b
  rw [if_pos rfl]
  match r,a with
  | 0,_=>simp [QY]
  | 1,_=>simp [QY]
  | 2,_=>simp [QY]
  | 3,_=>simp [QY]
  | 4,_=>simp [QY]
  | 5,_=>simp [QY]
  | 6,_=>simp [QY]
  | 7,_=>simp [QY]
 ·rw [if_neg b,if_neg (by omega),if_neg (by omega),if_neg (by omega),if_neg (by omega),if_neg (by omega),if_neg (by omega),if_neg (by omega),if_neg (by omega)]
theorem Qwc {f:Nat->Value} (d:n<=m) (i r:Nat) (c:r<8) : (if i*8+r<(m+1)*8 then Jm (J1 X n) (i*8+r) else f (i*8+r))=if i=m then QY Qd2 r else if i*8+r<m*8 then Jm (J1 X n) (i*8+r) else f (i*8+r):=by
 by_cases a:i=m
 ·subst a;rw [if_pos (by omega),if_pos rfl,QcD _ _ _ c];unfold J1;rw [if_neg (by omega)]
 rw [if_neg a];by_cases b:i*8+r<m*8
 ·rw [if_pos b,if_pos (by omega)]
 rw [if_neg b,if_neg (by omega)]
theorem QlB ao (n c:Nat) b w (U:n*88<=140737488351232) (o:JV w ao n b) : Xl 33 #[.slice ao n c] w λe w'=>e=.returned (Xe w.heap.size (n+3) (n+3))/\Xb w w'/\w'.rowIs w.heap.size 29 ((n+3)*8) (Jm (J1 b n)):=by
 obtain ⟨z,A,q,s,t⟩:=info_parts QiU;have D:=Qa o;clear o;go_enter Tryz.func33,Tryz.ntmps33;go_wp2_with (first|(refine Qfj rfl (.tmp 7) (.tmp 7) 25 rfl 29 z _ 8 88 Tryz.underlying25 A q s t .i64 .i64 _ (n+3) rfl rfl (by omega) (by omega) (by omega) ?_;intro w1 d h E k)|(refine QiF rfl (.tmp 9) (.tmp 10) 25 25 rfl 29 Tryz.underlying25 8 QtO w.heap.size (n+3) (n+3) ao n c rfl rfl (by omega) 29 ((n+3)*8) d (Qb h) (Jm b) (Qqk ((Qb D).below k)) (by omega) (λj _=>QpM _ _) w.heap.size w k X0 ?_;intro w2 l H v));go_loopw [4] (λi wr=>∃ m:Nat,n<=m/\m<=n+3/\i=Xi m/\Hid (wr.rowIs w.heap.size 29 ((n+3)*8) (λj=>if j<m*8 then Jm (J1 b n) j else d j))/\Xb w wr) (λi _=>n+3-(intOf i).toNat);·exact ⟨n,X0,by omega,rfl,Qa (l.out.congr λj _=>Qrq),v⟩
 case round =>
  obtain ⟨m,y,I,rfl,a,f⟩:=hrel;by_cases J:m<n+3
  ·obtain ⟨u0,K⟩:∃ u,wr.cell? (Xa w.heap.size (m*8))=some u:=⟨_,a.out.cell (by omega)⟩;obtain ⟨u1,L⟩:∃ u,wr.cell? (Xa w.heap.size (m*8+1))=some u:=⟨_,a.out.cell (by omega)⟩;obtain ⟨u2,M⟩:∃ u,wr.cell? (Xa w.heap.size (m*8+2))=some u:=⟨_,a.out.cell (by omega)⟩;obtain ⟨u3,N⟩:∃ u,wr.cell? (Xa w.heap.size (m*8+3))=some u:=⟨_,a.out.cell (by omega)⟩;obtain ⟨u4,O⟩:∃ u,wr.cell? (Xa w.heap.size (m*8+4))=some u:=⟨_,a.out.cell (by omega)⟩;obtain ⟨u5,P⟩:∃ u,wr.cell? (Xa w.heap.size (m*8+5))=some u:=⟨_,a.out.cell (by omega)⟩;obtain ⟨u6,R⟩:∃ u,wr.cell? (Xa w.heap.size (m*8+6))=some u:=⟨_,a.out.cell (by omega)⟩;obtain ⟨u7,S⟩:∃ u,wr.cell? (Xa w.heap.size (m*8+7))=some u:=⟨_,a.out.cell (by omega)⟩;have V:=a.out.frozen (m*8);have T:=a.out.frozen (m*8+1);have W:=a.out.frozen (m*8+2);have X:=a.out.frozen (m*8+3);have Y:=a.out.frozen (m*8+4);have a0:=a.out.frozen (m*8+5);have a1:=a.out.frozen (m*8+6);have a2:=a.out.frozen (m*8+7);have B:=Qa ((((((((((a.out.set (m*8) (Xi 0)).set (m*8+1) (Xi 0)).set (m*8+2) (Xi 0)).set (m*8+3) (Xi 0)).set (m*8+4) (Xi 0)).set (m*8+5) (.string ⟨#[115,112,97,114,101]⟩)).set (m*8+6) Xo).set (m*8+7) Xo)).congr (g:=λj=>if j<(m+1)*8 then Jm (J1 b n) j else d j) λj _=>Qo0 (F:=λj=>if j<m*8 then Jm (J1 b n) j else d j) (G:=λj=>if j<(m+1)*8 then Jm (J1 b n) j else d j) (m:=m) (x:=Qd2) (λi r a=>Qwc y i r a) j);have C:=Qa ((((((((f.setCell (p:=(Xa w.heap.size (m*8))) X0 (Xi 0)).setCell (p:=(Xa w.heap.size (m*8+1))) X0 (Xi 0)).setCell (p:=(Xa w.heap.size (m*8+2))) X0 (Xi 0)).setCell (p:=(Xa w.heap.size (m*8+3))) X0 (Xi 0)).setCell (p:=(Xa w.heap.size (m*8+4))) X0 (Xi 0)).setCell (p:=(Xa w.heap.size (m*8+5))) X0 (.string ⟨#[115,112,97,114,101]⟩)).setCell (p:=(Xa w.heap.size (m*8+6))) X0 Xo).setCell (p:=(Xa w.heap.size (m*8+7))) X0 Xo);clear h l;go_wp2;go_roundw;·exact ⟨m+1,by omega,by omega,by go_num,B,C.out⟩
   simp [intOf];omega
  go_wp2;go_ret;refine ⟨rfl,f,a.out.congr λj a3=>?_⟩;rw [if_pos (by omega)]

end Go.Proofs.YtobgcaemnpkbmaaGreat
