import Derived.Test.YtobgcaemnpkbmaaGreatDoorC04
namespace Go.Proofs.YtobgcaemnpkbmaaGreatDoor
set_option maxRecDepth 100000
set_option maxHeartbeats 8000000
open Go.RowKit List
def QdF (w:World) (v:Value) (n:Nat) (c:List Value) (e:Ending) (w':World):Prop :=
 ∃ a,e=.returned a/\w'.ownsRow 0 96 2 a (n+1) c/\w.grownBy w' v.ownBlock/\(a.ownBlock=v.ownBlock \/ ∃ b,a.ownBlock=some b/\w.heap.size<=b)
theorem QuC (v:Value) (n i f:Nat) (xs u:List Value) (w:World) (b:w.ownsRow 0 96 2 v n xs) (H:i=n) (P:n<=1000000) (B:u.length=2) (o:∀ x ∈ u,x.oneCell'=true) (p:w.heap[f]?=some (.cells u.toArray 96 (0,0))) : Xl 147 #[v,Xi i,Xe f 1 1] w (QdF w v n (xs++u)):=by
 obtain ⟨C,q,r,s,t⟩:=info_parts Qdc;obtain ⟨ao,c,rfl⟩:=Qz b;have y:n<=c:=by
  rcases b.2 with ⟨e,h⟩|⟨I,cap,G,e,hb,J,y,_⟩
  ·omega
  simp only [Value.slice.injEq] at e;obtain ⟨_,_,rfl⟩:=e;exact y
 have z:c<=9223372036854775807:=by
  rcases b.2 with ⟨e,h⟩|⟨I,cap,G,e,hb,J,_,z,_⟩
  ·simp only [Value.slice.injEq] at e;omega
  simp only [Value.slice.injEq] at e;obtain ⟨_,_,rfl⟩:=e;unfold maxLen at z;omega
 have m:∀ a,some ((Xa f 0):Addr)=some a->∀ j x,u[j]?=some x->w.cell? (a.add j)=some x:=λa e j x K=>by cases e;rw [ZS,Nat.zero_add];simp only [World.cell?,p];simpa using K
 have D:=Qa b;have E:=Qa m;have F:=Qa B;have A:=Qa o;subst H;clear b m p B o;cases ao with
 | none =>go_enter Tryz.func147,Tryz.ntmps147;go_wp2_with (first|(at_builtin;refine Jf _ rfl _ _ 45 rfl 0 96 C _ 2 32 Tryz.underlying45 q r s t rfl (.slice none i c) i xs rfl (Qb D) (some (Xa f 0)) 1 1 u rfl (by simp) (by rw [Qb F]) (Qb E) (Qb A) (by omega) (by omega) (Nat.zero_le _) ?_;intro l L k d _));all_goals (go_ret;exact ⟨l,rfl,k.out,d.out.by,d.out.at.imp id λe=>⟨_,e,Nat.le_refl _⟩⟩)
 | some M =>obtain ⟨g,O,N⟩:=M;go_enter Tryz.func147,Tryz.ntmps147;go_wp2_with (first|(at_builtin;refine Jf _ rfl _ _ 45 rfl 0 96 C _ 2 32 Tryz.underlying45 q r s t rfl (.slice (some ⟨g,O,N⟩) i c) i xs rfl (Qb D) (some (Xa f 0)) 1 1 u rfl (by simp) (by rw [Qb F]) (Qb E) (Qb A) (by omega) (by omega) (Nat.zero_le _) ?_;intro l L k d _));all_goals (go_ret;exact ⟨l,rfl,k.out,d.out.by,d.out.at.imp id λe=>⟨_,e,Nat.le_refl _⟩⟩)
theorem Qrt (g n c i f:Nat) (xs u:List Value) (w:World) (o:w.ownsRow 0 96 2 (Xe g n c) n xs) (aA:i<n) (a2:n+1<=c) (ae:∀ x ∈ xs,x.oneCell'=true) (z:u.length=2) (a4:∀ x ∈ u,x.oneCell'=true) (C:w.heap[f]?=some (.cells u.toArray 96 (0,0))) (O:f≠g) : Xl 147 #[Xe g n c,Xi i,Xe f 1 1] w (QdF w (Xe g n c) n (xs.take (i*2)++u++xs.drop (i*2))):=by
 obtain ⟨aB,a5,al,a6,ao⟩:=info_parts Qdc;obtain ⟨a7,M,R,ap,a8⟩:=Qcp o;have aj:c<=9223372036854775807:=by unfold maxLen at a8;omega
 have F:=o.1;obtain ⟨D,S,B⟩:=QgI o (m:=n+1) (by omega) a2;have T:(Tryz.prog.info? 96).map (·.size)=some 2:=by rw [a5];simp [a6]
 have U:∀ j x,u[j]?=some x->w.cell? (Xa f j)=some x:=λj x a=>by simp only [World.cell?,C];simpa using a
 have a9:∀ H I,(callFunc 178 #[Xe f 1 1,.slice (some (Xa g ((i+1)*2))) H I]).run Tryz.prog w=.ok (.value (.bool false)) w:=λH I=>by rw [run_callFunc_extern Tryz.func178 (by kernel_rfl) (by kernel_rfl) (by kernel_rfl) (e:=Extern.SlicesOverlaps.overlaps #[45,45] #[4]) (by kernel_rfl), Lib.run_overlaps_apart w 45 4 96 Tryz.underlying45 2 (λw=>Tryz.sizeOf96 w) (Xa f 0) (Xa g ((i+1)*2)) 1 1 H I O 96 96 u.toArray.size a7.size (by unfold World.shape?;rw [C]) (by unfold World.shape?;rw [M]) (by rw [R];omega) (by simp [World.frozen?,C]) (by simp [World.frozen?,C])];rfl
 have V:∀ j,j<(n+1)*2->(w.cell? (Xa g j)).isSome=true:=λj A=>by rw [B.cellAt j A,getElem?_eq_getElem (by rw [B.1];exact A)];rfl
 have W:∀ j,Xf w g j:=λj=>o.frozenAt j;obtain ⟨d,p⟩:∃ d,d=xs.drop (i*2):=⟨_,rfl⟩;have E:d.length=(n-i)*2:=by rw [p,length_drop,F];omega
 have K:Nat.min (n+1-i) (n-i)=n-i:=by show min _ _=_;omega
 have N:∀ k l J,(Builtin.copy_ #[45,45] k #[.slice (some (Xa g ((i+1)*2))) (n-i) l,.slice (some (Xa g (i*2))) (n+1-i) J]).run Tryz.prog w.drew=.ok (goInt ((n-i:Nat):Int)) (w.drew.setCells g ((i+1)*2) d):=λk l J=>by
  have h:=Qbo (P:=Tryz.prog) w.drew 45 45 k 96 2 g ((i+1)*2) (n-i) l (Xa g (i*2)) (n+1-i) J d Tryz.underlying45 T (by rw [K];exact E)
   (λj x a=>by
    have aq:=(List.getElem?_eq_some_iff.1 a).1
    rw [ZS]
    show w.cell? _=_
    rw [p,getElem?_drop] at a
    rw [o.cellAt _ (by omega)]
    exact a)
   (λj A=>V _ (by omega)) (λj _=>W _) (λx a=>ae x (by rw [p] at a;exact mem_of_mem_drop a))
  rw [K] at h;exact h
 obtain ⟨r,t⟩:∃ r,r=w.drew.setCells g ((i+1)*2) d:=⟨_,rfl⟩;rw [<- t] at N;have v:r.ownsRow 0 96 2 (Xe g (n+1) c) (n+1) (Zj (xs++D) ((i+1)*2) d):=by rw [t];exact J9 d ((i+1)*2) B.drew
 have G:=Jj g d ((i+1)*2) w.drew;rw [<- t] at G;have X:(Zj (xs++D) ((i+1)*2) d).length=(n+1)*2:=v.1;have L:Nat.min 1 (n+1-i)=1:=by show min _ _=_;omega
 have a3:∀ (s:World),(∀ x,s.cell? x=r.cell? x)->(∀ x,s.frozen? x=r.frozen? x)->∀ k l,(Builtin.copy_ #[45,45] k #[.slice (some (Xa g (i*2))) (n+1-i) l,Xe f 1 1]).run Tryz.prog s=.ok (goInt 1) (s.setCells g (i*2) u):=λs Y aa k l=>by
  have h:=Qbo (P:=Tryz.prog) s 45 45 k 96 2 g (i*2) (n+1-i) l (Xa f 0) 1 1 u Tryz.underlying45 T (by rw [L,z])
   (λj x a=>by
    rw [ZS,Nat.zero_add,Y,t,World.cell?_setCells_out g _ _ _ _ (λh _=>absurd h O)]
    exact U j x a)
   (λj A=>by rw [Y,v.cellAt _ (by omega),getElem?_eq_getElem (by rw [X];omega)];rfl) (λj A=>by rw [aa];exact v.frozenAt _) a4
  rw [L] at h;exact h
 have ab:=Qa v;have q:=Qa G;have af:=Qa F;have ac:=Qa E;have ag:=Qa p;have ah:=Qa z;have ad:=Qa S;have ar:¬ (c=i+1):=by omega
 have au:¬ (c=i):=by omega
 have ak:¬ ((i:Int)=(n:Int)):=by omega
 have av:IntKind.i64.wrap ((i:Int)+1)=(i:Int)+1:=by rw [IntKind.wrap_i64];omega
 have aw:i<=n:=by omega
 have ax:((i:Int)+1).toNat=i+1:=by omega
 have ay:(i:Int)<=(n:Int)+1:=by omega
 have az:(0:Int)<=(i:Int)+1:=by omega
 have ai:¬ ((c:Int)<(n:Int)+1):=by omega
 clear o B V W v G X M U F E p z S t R;go_enter Tryz.func147,Tryz.ntmps147;go_wp2_with (simp only [a9]);go_region_law (refine step_copy_runI rfl _ _ 45 45 rfl _ _ (by simp [Act.eval,Act.put]) (by simp [Act.eval,Act.put]) (N _ _ _) ?_);go_wp2_with (at_builtin;refine wpList_copy_runI _ rfl _ _ 45 45 rfl _ _ rfl rfl (a3 _ (λ_=>rfl) (λ_=>rfl) _ _) ?_);go_ret;have a0:=J9 u (i*2) ab.out;have y:=Jj g u (i*2) r;have a:=af.out;have aC:=ad.out;have z:=ah.out;have p:=ac.out;refine ⟨Xe g (n+1) c,rfl,?_,⟨y.1.os.trans q.out.1.os,y.1.tape.trans (q.out.1.tape.trans rfl),y.1.output.trans q.out.1.output,?_,λb hb a1=>(y.1.block b (by rw [q.out.2];exact hb) a1).trans (q.out.1.block b hb a1)⟩,.inl rfl⟩
 ·have e:Zj (Zj (xs++D) ((i+1)*2) d) (i*2) u=xs.take (i*2)++u++xs.drop (i*2):=by have h:=Qie xs D u (i*2) 2 (by omega) z (by omega);rw [<- ag.out] at h ⊢;rw [show i*2+2=(i+1)*2 by omega] at h;exact h
  rw [e] at a0;exact a0
 rw [y.2,q.out.2];exact Nat.le_refl _
theorem QoZ (g n c i p:Nat) (xs u:List Value) (w:World) (t:w.ownsRow 0 96 2 (Xe g n c) n xs) (aQ:i<n) (ad:c<n+1) (az:n<=1000000) (B:∀ x ∈ xs,x.oneCell'=true) (M:u.length=2) (ag:∀ x ∈ u,x.oneCell'=true) (H:w.heap[p]?=some (.cells u.toArray 96 (0,0))) : Xl 147 #[Xe g n c,Xi i,Xe p 1 1] w (QdF w (Xe g n c) n (xs.take (i*2)++u++xs.drop (i*2))):=by
 obtain ⟨aa,a0,ah,a1,a2⟩:=info_parts Qdc;obtain ⟨aD,U,ai,aE,aF⟩:=Qcp t;have a3:=t.1;have aj:g<w.heap.size:=(Array.getElem?_eq_some_iff.1 U).1;have ak:p<w.heap.size:=(Array.getElem?_eq_some_iff.1 H).1;have a4:(Tryz.prog.info? 96).map (·.size)=some 2:=by rw [a0];simp [a1]
 have a5:∀ j x,u[j]?=some x->w.cell? (Xa p j)=some x:=λj x m=>by simp only [World.cell?,H];simpa using m
 have a6:(n:Int)+1-(i:Int)=((n+1-i:Nat):Int):=by omega
 have I:i+(n+1-i)=n+1:=by omega
 have V:(Builtin.firstCells aa.size i (Xe g i c)).run Tryz.prog w.drew=.ok (xs.take (i*2)).toArray w.drew:=by
  rw [a1];exact run_firstCells_some w.drew 2 i (Xa g 0) i c (xs.take (i*2)) (by rw [length_take];omega) (λj x q=>by
   rw [ZS,Nat.zero_add];show w.cell? _=_;rw [getElem?_take] at q;split at q
   ·rw [t.cellAt j (by omega)];exact q
   cases q)
 have F:∀ l,(Builtin.append_ #[45,3] l #[Xe g i c,Xi ((n:Int)+1-(i:Int))]).run Tryz.prog w = .ok (Xe w.heap.size (n+1) (grownCap w (n+1) c 96)) (w.drew.alloc (.cells ((xs.take (i*2)).toArray++Builtin.zeroCells ((.agg #[Xo,Xo]):Value).cells (n+1-i)++Builtin.zeroCells ((.agg #[Xo,Xo]):Value).cells (grownCap w (n+1) c 96-(n+1))) 96)):=λl=>by have h:=Lib.run_append_grow_zeros w 45 3 l 96 aa _ .i64 .i64 Tryz.underlying45 Tryz.underlying3 a0 ah (some (Xa g 0)) i c (xs.take (i*2)) V (n+1-i) (by omega) (by omega) (by omega) (by omega) (by rw [a2];omega) (by rw [a2,I];exact growslice_fits ad (by omega));rw [I] at h;rw [a6];exact h
 obtain ⟨f,G⟩:∃ f,f=grownCap w (n+1) c 96:=⟨_,rfl⟩;have al:n+1<=f:=by rw [G];exact grownCap_ge w _ _ _
 have a7:f<=maxLen:=by rw [G];exact grownCap_le_maxLen w (n+1) c 96 (by unfold maxLen;omega)
 have aA:f<=9223372036854775807:=by unfold maxLen at a7;omega
 obtain ⟨a,C⟩:∃ a:Array Value,a=(xs.take (i*2)).toArray++Builtin.zeroCells ((.agg #[Xo,Xo]):Value).cells (n+1-i)++Builtin.zeroCells ((.agg #[Xo,Xo]):Value).cells (f-(n+1)):=⟨_,rfl⟩;rw [<- G] at F;rw [<- C] at F;have ao:(((.agg #[Xo,Xo]):Value).cells).size=2:=rfl;have a8:a.size=f*2:=by rw [C,Array.size_append,Array.size_append,size_zeroCells,size_zeroCells,ao,size_toArray,length_take];omega
 have a9:a.toList.take (i*2)=xs.take (i*2):=by rw [C,Array.toList_append,Array.toList_append,append_assoc,take_append_of_le_length (by simp;omega),toList_toArray,take_take,Nat.min_self]
 obtain ⟨k,v⟩:∃ k,k=w.drew.alloc (.cells a 96):=⟨_,rfl⟩;have y:k.ownsRow 0 96 2 (Xe w.heap.size (n+1) f) (n+1) (a.toList.take ((n+1)*2)):=by refine ⟨by rw [length_take,Array.length_toList];omega,.inr ⟨w.heap.size,f,a,rfl,Nat.zero_le _,by rw [v];exact heap_alloc_new w.drew _,al,a7,a8,rfl⟩⟩
 rw [<- v] at F;have D:∀ b,b<w.heap.size->k.heap[b]?=w.heap[b]?:=λb hb=>by rw [v];exact heap_alloc_old w.drew _ hb
 have S:Nat.min 1 (n+1-i)=1:=by show min _ _=_;omega
 have s:(a.toList.take ((n+1)*2)).length=(n+1)*2:=y.1;have af:∀ (d:World),(∀ x,d.cell? x=k.cell? x)->(∀ x,d.frozen? x=k.frozen? x)->∀ l r,(Builtin.copy_ #[45,45] l #[.slice (some (Xa w.heap.size (i*2))) (n+1-i) r,Xe p 1 1]).run Tryz.prog d=.ok (goInt 1) (d.setCells w.heap.size (i*2) u):=λd z J l r=>by
  have h:=Qbo (P:=Tryz.prog) d 45 45 l 96 2 w.heap.size (i*2) (n+1-i) r (Xa p 0) 1 1 u Tryz.underlying45 a4 (by rw [S,M])
   (λj x m=>by
    rw [ZS,Nat.zero_add,z,Xk p j (D p ak)]
    exact a5 j x m)
   (λj q=>by rw [z,y.cellAt _ (by omega),getElem?_eq_getElem (by rw [s];omega)];rfl) (λj q=>by rw [J];exact y.frozenAt _) ag
  rw [S] at h;exact h
 obtain ⟨o,A⟩:∃ o,o=xs.drop (i*2):=⟨_,rfl⟩;have W:o.length=(n-i)*2:=by rw [A,length_drop,a3];omega
 have E:=J9 u (i*2) y;have ap:g≠w.heap.size:=by omega
 have T:Nat.min (n-i) (n-i)=n-i:=by show min _ _=_;omega
 have X:∀ (d:World),(∀ x,d.cell? x=(k.setCells w.heap.size (i*2) u).cell? x)->(∀ x,d.frozen? x=(k.setCells w.heap.size (i*2) u).frozen? x)->∀ l r N,(Builtin.copy_ #[45,45] l #[.slice (some (Xa w.heap.size ((i+1)*2))) (n-i) r,.slice (some (Xa g (i*2))) (n-i) N]).run Tryz.prog d=.ok (goInt ((n-i:Nat):Int)) (d.setCells w.heap.size ((i+1)*2) o):=λd z J l r N=>by
  have h:=Qbo (P:=Tryz.prog) d 45 45 l 96 2 w.heap.size ((i+1)*2) (n-i) r (Xa g (i*2)) (n-i) N o Tryz.underlying45 a4 (by rw [T];exact W)
   (λj x m=>by
    have aG:=(List.getElem?_eq_some_iff.1 m).1
    rw [ZS,z,World.cell?_setCells_out _ _ _ _ _ (λh _=>absurd h ap),Xk g _ (D g aj)]
    rw [A,getElem?_drop] at m
    rw [t.cellAt _ (by omega)]
    exact m)
   (λj q=>by rw [z,E.cellAt _ (by omega),getElem?_eq_getElem (by rw [Qbe,s];omega)];rfl)
   (λj q=>by rw [J];exact E.frozenAt _) (λx m=>B x (by rw [A] at m;exact mem_of_mem_drop m))
  rw [T] at h;exact h
 have Y:∀ d:World,d.heap=((k.setCells w.heap.size (i*2) u).setCells w.heap.size ((i+1)*2) o).heap->d.os=w.os/\d.tape=w.tape/\d.output=w.output->QdF w (Xe g n c) n (xs.take (i*2)++u++xs.drop (i*2)) (.returned (Xe w.heap.size (n+1) f)) d:=λd K L=>by
  have ab:=J9 o ((i+1)*2) E;have ac:=Jj w.heap.size o ((i+1)*2) (k.setCells w.heap.size (i*2) u);have O:=Jj w.heap.size u (i*2) k;have e:Zj (Zj (a.toList.take ((n+1)*2)) (i*2) u) ((i+1)*2) o=xs.take (i*2)++u++xs.drop (i*2):=by
   have ax:Zj (a.toList.take ((n+1)*2)) (i*2) u=xs.take (i*2)++u++(a.toList.take ((n+1)*2)).drop (i*2+u.length):=by rw [Qa7 _ _ _ (by rw [s];omega),take_take,Nat.min_eq_left (by omega)];rw [a9]
   have ae:(xs.take (i*2)++u).length=(i+1)*2:=by rw [length_append,length_take,M];omega
   rw [Qa7 _ _ _ (by rw [Qbe,s];omega),drop_of_length_le (by rw [Qbe,s];omega),append_nil,ax];have:=take_left (l₁:=xs.take (i*2)++u) (l₂:=(a.toList.take ((n+1)*2)).drop (i*2+u.length));rw [ae] at this;rw [this,A]
  rw [e] at ab;have aq:k.heap.size=w.heap.size+1:=by rw [v];simp
  have aH:d.heap.size=w.heap.size+1:=by rw [K,ac.2,O.2,aq]
  refine ⟨_,rfl,QT ab (λb _=>by rw [K]),⟨L.1,L.2.1,L.2.2,by omega,λb hb _=>?_⟩,.inr ⟨w.heap.size,rfl,Nat.le_refl _⟩⟩;rw [K];exact (ac.1.block b (by rw [O.2];omega) (λe=>by have:=Option.some.inj e;omega)).trans ((O.1.block b (by omega) (λe=>by have:=Option.some.inj e;omega)).trans (D b hb))
 have ay:=Qa Y;subst v;have ar:∀ x,((w.alloc (.cells a 96)).drew).cell? x=(w.drew.alloc (.cells a 96)).cell? x:=λx=>rfl;have au:∀ x,((w.alloc (.cells a 96)).drew).frozen? x=(w.drew.alloc (.cells a 96)).frozen? x:=λx=>rfl;have av:∀ x,(((w.alloc (.cells a 96)).drew.setCells w.heap.size (i*2) u).drew).cell? x=((w.drew.alloc (.cells a 96)).setCells w.heap.size (i*2) u).cell? x:=λx=>rfl;have aw:∀ x,(((w.alloc (.cells a 96)).drew.setCells w.heap.size (i*2) u).drew).frozen? x=((w.drew.alloc (.cells a 96)).setCells w.heap.size (i*2) u).frozen? x:=λx=>rfl;have aI:(c:Int)<(n:Int)+1:=by omega
 have aJ:¬ (f=i):=by omega
 have aB:¬ (f=i+1):=by omega
 have aK:¬ (c=i):=by omega
 have aC:¬ ((i:Int)=(n:Int)):=by omega
 have aL:IntKind.i64.wrap ((i:Int)+1)=(i:Int)+1:=by rw [IntKind.wrap_i64];omega
 have aM:(0:Int)<=(i:Int)+1:=by omega
 have aN:i<=n:=by omega
 have aO:((i:Int)+1).toNat=i+1:=by omega
 have aP:(i:Int)<=(n:Int):=by omega
 clear a6 I V C G a8 t y E Y U H a5 a3 W A M D a9 s ai;go_enter Tryz.func147,Tryz.ntmps147
 go_wp2_with (first
  | (at_builtin;refine Lib.wpList_append_run _ rfl _ _ _ _ rfl _ _ rfl rfl _ _ (F _) ?_)
  | (at_builtin;refine wpList_copy_runI _ rfl _ _ 45 45 rfl _ _ rfl rfl (af _ ar au _ _) ?_)
  | (at_builtin;refine wpList_copy_runI _ rfl _ _ 45 45 rfl _ _ rfl rfl (X _ (λ_=>rfl) (λ_=>rfl) _ _ _) ?_))
 go_region_law (refine step_copy_runI rfl _ _ 45 45 rfl (.slice (some (Xa w.heap.size ((i+1)*2))) (n-i) (f-(i+1))) (.slice (some (Xa g (i*2))) (n-i) (c-i)) (by simp [Act.eval,Act.put]) (by simp [Act.eval,Act.put]) (X _ av aw 3 (f-(i+1)) (c-i)) ?_);go_wp2;go_ret;have B:=(Jj w.heap.size o ((i+1)*2) ((w.alloc (.cells a 96)).drew.setCells w.heap.size (i*2) u).drew).1;have R:=(Jj w.heap.size u (i*2) (w.alloc (.cells a 96)).drew).1;exact ay.out _ (by rw [Qib];rfl) ⟨B.os.trans R.os,B.tape.trans R.tape,B.output.trans R.output⟩
theorem Qny (v:Value) (n i a:Nat) (xs u:List Value) (w:World) (b:w.ownsRow 0 96 2 v n xs) (r:i<=n) (j:n<=1000000) (k:∀ x ∈ xs,x.oneCell'=true) (h:u.length=2) (d:∀ x ∈ u,x.oneCell'=true) (f:w.heap[a]?=some (.cells u.toArray 96 (0,0))) (l:v.ownBlock≠some a) : Xl 147 #[v,Xi i,Xe a 1 1] w (QdF w v n (xs.take (i*2)++u++xs.drop (i*2))):=by
 have p:=b.1;by_cases e:i=n
 ·have m:xs.take (i*2)++u++xs.drop (i*2)=xs++u:=by rw [take_of_length_le (by omega),drop_of_length_le (by omega),append_nil]
  rw [m];exact QuC v n i a xs u w b e j h d f
 rcases b.2 with ⟨_,s⟩|⟨g,c,q,rfl,_⟩
 ·omega
 by_cases o:n+1<=c
 ·exact Qrt g n c i a xs u w b (by omega) o k h d f (λe=>l (by rw [e];rfl))
 exact QoZ g n c i a xs u w b (by omega) (by omega) j k h d f
theorem Qs7:(Tryz.prog.info? 60).map (λi=>(i.zero,i.size,i.bytes))=some (some (.agg #[Xi 0,Xi 0,Xi 0,Xi 0,Xi 0,Xo,Xo,Xo]),8,88):=by kernel_rfl
def QaX (x:Qn):Nat->Value
 | 0=>Xi x.kind
 | 1=>Xi x.id
 | 2=>Xi x.par
 | 3=>Xi x.bef
 | 4=>Xi x.key
 | 5=>.string x.tag
 | 6=>.string x.name
 | _=>.string x.text
def Qfe (X:Nat->Qn) (j:Nat):Value:=QaX (X (j / 8)) (j % 8)
theorem QpY (X:Nat->Qn) (i r:Nat) (c:r<8):Qfe X (i*8+r)=QaX (X i) r:=by
 unfold Qfe;have a:(i*8+r) / 8=i:=by omega
 have b:(i*8+r) % 8=r:=by omega
 rw [a,b]
structure Qf4 (w:World) (b o n:Nat) (X:Nat->Qn):Prop where
 lt:b<w.heap.size
 cell:∀ j,j<n*8->w.cell? (Xa b (o+j))=some (Qfe X j)
def Qd4 (w:World) (ao:Option Addr) (n:Nat) (X:Nat->Qn):Prop:=0<n->∃ b a,ao=some (Xa b a)/\Qf4 w b a n X
theorem Qf4.below {w w':World} {b a n:Nat} {X:Nat->Qn} (h:Qf4 w b a n X) (hb:Xb w w'):Qf4 w' b a n X := ⟨Nat.lt_of_lt_of_le h.lt hb.size,λj c=>(Xh hb b _ h.lt).trans (h.cell j c)⟩
theorem Qd4.below {w w':World} {ao:Option Addr} {n:Nat} {X:Nat->Qn} (h:Qd4 w ao n X) (hb:Xb w w'):Qd4 w' ao n X:=λa =>
 let ⟨b,o,e,g⟩:=h a
 ⟨b,o,e,g.below hb⟩
theorem QnA (H I:Option Addr) (n a8 q:Nat) (L M:Nat->Qd) (w:World) (a9:n<=maxLen) (J:QaU w H n L) (K:QaU w I n M) (N:∀ i,i<n->(L i).d=(M i).d/\(L i).t=(M i).t/\(L i).k=(M i).k/\(L i).x=(M i).x/\(L i).an=(M i).an/\∀ j,j<(M i).an->(L i).nm j=(M i).nm j/\(L i).vl j=(M i).vl j) : Xl 20 #[.slice H n a8,.slice I n q] w λe w'=>e=.returned (.bool true)/\Xb w w':=by
 unfold maxLen at a9;have O:=Qa J;have P:=Qa K;have aa:=Qa N;clear J K N;go_enter Tryz.func20,Tryz.ntmps20;go_wp2;go_loopw [5,6] (λi _ wr=>∃ k:Nat,k<=n/\i=Xi k/\Xb w wr) (λi _ _=>n-(intOf i).toNat);·exact ⟨0,Nat.zero_le _,rfl,Below.refl _ _⟩
 case round =>
  obtain ⟨k,au,rfl,a⟩:=hrel;by_cases r:k<n
  ·obtain ⟨c,h,rfl,v⟩:=O.out (by omega);obtain ⟨f,l,rfl,y⟩:=P.out (by omega);have o:=v.lt;have p:=y.lt;have A:=v.node k r;have g:=y.node k r;obtain ⟨u0,u1,u2,u3,u4,u5⟩:=aa.out k r;have R:=(Xh a c (h+k*5) o).trans A.c0;have S:=(Xh a c (h+k*5+1) o).trans A.c1;have T:=(Xh a c (h+k*5+2) o).trans A.c2;have z:=(Xh a c (h+k*5+3) o).trans A.c3;have U:=(Xh a c (h+k*5+4) o).trans A.c4;have ab:=(Xh a f (l+k*5) p).trans g.c0;have ad:=(Xh a f (l+k*5+1) p).trans g.c1;have ae:=(Xh a f (l+k*5+2) p).trans g.c2;have V:=(Xh a f (l+k*5+3) p).trans g.c3;have af:=(Xh a f (l+k*5+4) p).trans g.c4;have W:=Qa (A.ok.at'.below a);have ag:=Qa (g.ok.at'.below a);have C:=A.ok.an;rw [u0] at R;rw [u1] at S;rw [u2] at T;rw [u4] at z W C;rw [u3] at U;have ah:=Qa u5;clear u0 u1 u2 u3 u4 u5 A g v y O P;generalize (L k).ao=ak at *;generalize (L k).ac=al at *;generalize (L k).nm=ap at *;generalize (L k).vl=aq at *;generalize M k=m at *;unfold maxLen at C;have av:(0:Int)<=(k:Int):=by omega
   have aw:(k:Int)<(n:Int):=by omega
   have a6:=a.size;have a5:=Qa a;have ai:c<wr.heap.size:=by omega
   have aj:f<wr.heap.size:=by omega
   clear a;go_wp2_with fail;simp only [List.append];go_big_quiet (fail);go_wp2_with fail;have D:Xb wr (wr.drewN nq):=QL (.refl _ _) nq;generalize wr.drewN nq=w1 at D ⊢;go_loopw [6] (λi w2=>∃ j:Nat,j<=m.an/\i=Xi j/\Xb wr w2) (λi _=>m.an-(intOf i).toNat);·exact ⟨0,Nat.zero_le _,rfl,D⟩
   case round =>
    obtain ⟨j,ax,rfl,b⟩:=hrel;have ar:=(Xh b c (h+k*5+3) ai).trans z;have a7:=(Xh b f (l+k*5+3) aj).trans V;by_cases s:j<m.an
    ·obtain ⟨X,Y⟩:=ah.out j s;obtain ⟨a0,a1,rfl,E,B,u,_,_⟩:=W.out j s;obtain ⟨a2,a3,F,G,q,a4,_,_⟩:=ag.out j s;rw [F] at a7;rw [X] at B;rw [Y] at u;have ay:=(Xh b a0 (a1+j*2) E).trans B;have az:=(Xh b a0 (a1+j*2+1) E).trans u;have aA:=(Xh b a2 (a3+j*2) G).trans q;have aB:=(Xh b a2 (a3+j*2+1) G).trans a4;clear B u q a4 R S T z U ab ad ae V af X Y F;generalize m.nm j=aC at *;generalize m.vl j=aD at *;have aE:(0:Int)<=(j:Int):=by omega
     have aF:(j:Int)<(m.an:Int):=by omega
     go_wp2;go_big_quiet (fail);go_wp2;go_roundw;·exact ⟨j+1,by omega,by go_num,QL b _⟩
     simp [intOf];omega
    go_wp2;go_roundw;·exact ⟨k+1,by omega,by go_num,a5.out.trans (b.mono a6)⟩
    simp [intOf];omega
  go_wp2;go_ret;exact ⟨rfl,a⟩
end Go.Proofs.YtobgcaemnpkbmaaGreatDoor
