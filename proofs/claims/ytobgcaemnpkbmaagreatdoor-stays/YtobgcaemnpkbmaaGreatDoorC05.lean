import Derived.Test.YtobgcaemnpkbmaaGreatDoorC04
import Derived.Lib.SlicesDelete
namespace Go.Proofs.YtobgcaemnpkbmaaGreatDoor
set_option maxRecDepth 100000
set_option maxHeartbeats 8000000
open Go.RowKit List
def Qdf (w:World) (v:Value) (n:Nat) (c:List Value) (e:Ending) (w':World):Prop :=
 ∃ a,e=.returned a/\w'.ownsRow 0 140 1 a (n+1) c/\w.grownBy w' v.ownBlock/\(a.ownBlock=v.ownBlock \/ ∃ b,a.ownBlock=some b/\w.heap.size<=b)
theorem QuM (v:Value) (n i f:Nat) (xs u:List Value) (w:World) (b:w.ownsRow 0 140 1 v n xs) (H:i=n) (P:n<=1000000) (B:u.length=1) (o:∀ x ∈ u,x.oneCell'=true) (p:w.heap[f]?=some (.cells u.toArray 140 (0,0))) : Xl 96 #[v,Xi i,Xe f 1 1] w (Qdf w v n (xs++u)):=by
 obtain ⟨C,q,r,s,t⟩:=info_parts QgB;obtain ⟨ao,c,rfl⟩:=Qz b;have y:n<=c:=by
  rcases b.2 with ⟨e,h⟩|⟨I,cap,G,e,hb,J,y,_⟩
  ·omega
  simp only [Value.slice.injEq] at e;obtain ⟨_,_,rfl⟩:=e;exact y
 have z:c<=9223372036854775807:=by
  rcases b.2 with ⟨e,h⟩|⟨I,cap,G,e,hb,J,_,z,_⟩
  ·simp only [Value.slice.injEq] at e;omega
  simp only [Value.slice.injEq] at e;obtain ⟨_,_,rfl⟩:=e;unfold maxLen at z;omega
 have m:∀ a,some ((Xa f 0):Addr)=some a->∀ j x,u[j]?=some x->w.cell? (a.add j)=some x:=λa e j x K=>by cases e;rw [ZS,Nat.zero_add];simp only [World.cell?,p];simpa using K
 have D:=Qa b;have E:=Qa m;have F:=Qa B;have A:=Qa o;subst H;clear b m p B o;cases ao with
 | none =>go_enter Tryz.func96,Tryz.ntmps96;go_wp2_with (first|(at_builtin;refine Jf _ rfl _ _ 146 rfl 0 140 C _ 1 8 Tryz.underlying146 q r s t rfl (.slice none i c) i xs rfl (Qb D) (some (Xa f 0)) 1 1 u rfl (by simp) (by rw [Qb F]) (Qb E) (Qb A) (by omega) (by omega) (Nat.zero_le _) ?_;intro l L k d _));all_goals (go_ret;exact ⟨l,rfl,k.out,d.out.by,d.out.at.imp id λe=>⟨_,e,Nat.le_refl _⟩⟩)
 | some M =>obtain ⟨g,O,N⟩:=M;go_enter Tryz.func96,Tryz.ntmps96;go_wp2_with (first|(at_builtin;refine Jf _ rfl _ _ 146 rfl 0 140 C _ 1 8 Tryz.underlying146 q r s t rfl (.slice (some ⟨g,O,N⟩) i c) i xs rfl (Qb D) (some (Xa f 0)) 1 1 u rfl (by simp) (by rw [Qb F]) (Qb E) (Qb A) (by omega) (by omega) (Nat.zero_le _) ?_;intro l L k d _));all_goals (go_ret;exact ⟨l,rfl,k.out,d.out.by,d.out.at.imp id λe=>⟨_,e,Nat.le_refl _⟩⟩)
theorem Qog (g n c i f:Nat) (xs u:List Value) (w:World) (o:w.ownsRow 0 140 1 (Xe g n c) n xs) (aA:i<n) (a2:n+1<=c) (ae:∀ x ∈ xs,x.oneCell'=true) (z:u.length=1) (a4:∀ x ∈ u,x.oneCell'=true) (C:w.heap[f]?=some (.cells u.toArray 140 (0,0))) (O:f≠g) : Xl 96 #[Xe g n c,Xi i,Xe f 1 1] w (Qdf w (Xe g n c) n (xs.take (i*1)++u++xs.drop (i*1))):=by
 obtain ⟨aB,a5,al,a6,ao⟩:=info_parts QgB;obtain ⟨a7,M,R,ap,a8⟩:=Qcp o;have aj:c<=9223372036854775807:=by unfold maxLen at a8;omega
 have F:=o.1;obtain ⟨D,S,B⟩:=QgI o (m:=n+1) (by omega) a2;have T:(Tryz.prog.info? 140).map (·.size)=some 1:=by rw [a5];simp [a6]
 have U:∀ j x,u[j]?=some x->w.cell? (Xa f j)=some x:=λj x a=>by simp only [World.cell?,C];simpa using a
 have a9:∀ H I,(callFunc 128 #[Xe f 1 1,.slice (some (Xa g (i+1))) H I]).run Tryz.prog w=.ok (.value (.bool false)) w:=λH I=>by rw [run_callFunc_extern Tryz.func128 (by kernel_rfl) (by kernel_rfl) (by kernel_rfl) (e:=Extern.SlicesOverlaps.overlaps #[146,146] #[4]) (by kernel_rfl), Lib.run_overlaps_apart w 146 4 140 Tryz.underlying146 1 (λw=>Tryz.sizeOf140 w) (Xa f 0) (Xa g (i+1)) 1 1 H I O 140 140 u.toArray.size a7.size (by unfold World.shape?;rw [C]) (by unfold World.shape?;rw [M]) (by rw [R];omega) (by simp [World.frozen?,C]) (by simp [World.frozen?,C])];rfl
 have V:∀ j,j<(n+1)*1->(w.cell? (Xa g j)).isSome=true:=λj A=>by rw [B.cellAt j A,getElem?_eq_getElem (by rw [B.1];exact A)];rfl
 have W:∀ j,Xf w g j:=λj=>o.frozenAt j;obtain ⟨d,p⟩:∃ d,d=xs.drop (i*1):=⟨_,rfl⟩;have E:d.length=(n-i)*1:=by rw [p,length_drop,F];omega
 have K:Nat.min (n+1-i) (n-i)=n-i:=by show min _ _=_;omega
 have N:∀ k l J,(Builtin.copy_ #[146,146] k #[.slice (some (Xa g (i+1))) (n-i) l,.slice (some (Xa g i)) (n+1-i) J]).run Tryz.prog w.drew=.ok (goInt ((n-i:Nat):Int)) (w.drew.setCells g (i+1) d):=λk l J=>by
  have h:=Qbo (P:=Tryz.prog) w.drew 146 146 k 140 1 g (i+1) (n-i) l (Xa g i) (n+1-i) J d Tryz.underlying146 T (by rw [K];exact E)
   (λj x a=>by
    have aq:=(List.getElem?_eq_some_iff.1 a).1
    rw [ZS]
    show w.cell? _=_
    rw [p,getElem?_drop] at a
    rw [o.cellAt _ (by omega)]
    rw [Nat.mul_one] at a;exact a)
   (λj A=>V _ (by omega)) (λj _=>W _) (λx a=>ae x (by rw [p] at a;exact mem_of_mem_drop a))
  rw [K] at h;exact h
 obtain ⟨r,t⟩:∃ r,r=w.drew.setCells g (i+1) d:=⟨_,rfl⟩;rw [<- t] at N;have v:r.ownsRow 0 140 1 (Xe g (n+1) c) (n+1) (Zj (xs++D) (i+1) d):=by rw [t];exact J9 d (i+1) B.drew
 have G:=Jj g d (i+1) w.drew;rw [<- t] at G;have X:(Zj (xs++D) (i+1) d).length=(n+1)*1:=v.1;have L:Nat.min 1 (n+1-i)=1:=by show min _ _=_;omega
 have a3:∀ (s:World),(∀ x,s.cell? x=r.cell? x)->(∀ x,s.frozen? x=r.frozen? x)->∀ k l,(Builtin.copy_ #[146,146] k #[.slice (some (Xa g i)) (n+1-i) l,Xe f 1 1]).run Tryz.prog s=.ok (goInt 1) (s.setCells g (i) u):=λs Y aa k l=>by
  have h:=Qbo (P:=Tryz.prog) s 146 146 k 140 1 g (i) (n+1-i) l (Xa f 0) 1 1 u Tryz.underlying146 T (by rw [L,z])
   (λj x a=>by
    rw [ZS,Nat.zero_add,Y,t,World.cell?_setCells_out g _ _ _ _ (λh _=>absurd h O)]
    exact U j x a)
   (λj A=>by rw [Y,v.cellAt _ (by omega),getElem?_eq_getElem (by rw [X];omega)];rfl) (λj A=>by rw [aa];exact v.frozenAt _) a4
  rw [L] at h;exact h
 have ab:=Qa v;have q:=Qa G;have af:=Qa F;have ac:=Qa E;have ag:=Qa p;have ah:=Qa z;have ad:=Qa S;have ar:¬ (c=i+1):=by omega
 have au:¬ (c=i):=by omega
 have ak:¬ ((i:Int)=(n:Int)):=by omega
 have av:IntKind.i64.wrap ((i:Int)+1)=(i:Int)+1:=by rw [IntKind.wrap_i64];omega
 have aw:i<=n:=by omega
 have ax:((i:Int)+1).toNat=i+1:=by omega
 have ay:(i:Int)<=(n:Int)+1:=by omega
 have az:(0:Int)<=(i:Int)+1:=by omega
 have ai:¬ ((c:Int)<(n:Int)+1):=by omega
 clear o B V W v G X M U F E p z S t R;go_enter Tryz.func96,Tryz.ntmps96;go_wp2_with (simp only [a9]);go_region_law (refine step_copy_runI rfl _ _ 146 146 rfl _ _ (by simp [Act.eval,Act.put]) (by simp [Act.eval,Act.put]) (N _ _ _) ?_);go_wp2_with (at_builtin;refine wpList_copy_runI _ rfl _ _ 146 146 rfl _ _ rfl rfl (a3 _ (λ_=>rfl) (λ_=>rfl) _ _) ?_);go_ret;have a0:=J9 u (i) ab.out;have y:=Jj g u (i) r;have a:=af.out;have aC:=ad.out;have z:=ah.out;have p:=ac.out;refine ⟨Xe g (n+1) c,rfl,?_,⟨y.1.os.trans q.out.1.os,y.1.tape.trans (q.out.1.tape.trans rfl),y.1.output.trans q.out.1.output,?_,λb hb a1=>(y.1.block b (by rw [q.out.2];exact hb) a1).trans (q.out.1.block b hb a1)⟩,.inl rfl⟩
 ·have e:Zj (Zj (xs++D) (i+1) d) (i) u=xs.take (i*1)++u++xs.drop (i*1):=by have h:=Qie xs D u (i*1) 1 (by omega) z (by omega);rw [<- ag.out] at h ⊢;rw [Nat.mul_one] at h ⊢;exact h
  rw [e] at a0;exact a0
 rw [y.2,q.out.2];exact Nat.le_refl _
theorem QoU (g n c i p:Nat) (xs u:List Value) (w:World) (t:w.ownsRow 0 140 1 (Xe g n c) n xs) (aQ:i<n) (ad:c<n+1) (az:n<=1000000) (B:∀ x ∈ xs,x.oneCell'=true) (N:u.length=1) (ag:∀ x ∈ u,x.oneCell'=true) (H:w.heap[p]?=some (.cells u.toArray 140 (0,0))) : Xl 96 #[Xe g n c,Xi i,Xe p 1 1] w (Qdf w (Xe g n c) n (xs.take (i*1)++u++xs.drop (i*1))):=by
 obtain ⟨aa,a1,ah,a2,a3⟩:=info_parts QgB;obtain ⟨aD,V,ai,aE,aF⟩:=Qcp t;have a4:=t.1;have aj:g<w.heap.size:=(Array.getElem?_eq_some_iff.1 V).1;have ak:p<w.heap.size:=(Array.getElem?_eq_some_iff.1 H).1;have a5:(Tryz.prog.info? 140).map (·.size)=some 1:=by rw [a1];simp [a2]
 have a6:∀ j x,u[j]?=some x->w.cell? (Xa p j)=some x:=λj x l=>by simp only [World.cell?,H];simpa using l
 have a7:(n:Int)+1-(i:Int)=((n+1-i:Nat):Int):=by omega
 have I:i+(n+1-i)=n+1:=by omega
 have W:(Builtin.firstCells aa.size i (Xe g i c)).run Tryz.prog w.drew=.ok (xs.take (i*1)).toArray w.drew:=by
  rw [a2];exact run_firstCells_some w.drew 1 i (Xa g 0) i c (xs.take (i*1)) (by rw [length_take];omega) (λj x q=>by
   rw [ZS,Nat.zero_add];show w.cell? _=_;rw [getElem?_take] at q;split at q
   ·rw [t.cellAt j (by omega)];exact q
   cases q)
 have F:∀ m,(Builtin.append_ #[146,3] m #[Xe g i c,Xi ((n:Int)+1-(i:Int))]).run Tryz.prog w = .ok (Xe w.heap.size (n+1) (grownCap w (n+1) c 140)) (w.drew.alloc (.cells ((xs.take (i*1)).toArray++Builtin.zeroCells ((.pointer none):Value).cells (n+1-i)++Builtin.zeroCells ((.pointer none):Value).cells (grownCap w (n+1) c 140-(n+1))) 140)):=λm=>by have h:=Lib.run_append_grow_zeros w 146 3 m 140 aa _ .i64 .i64 Tryz.underlying146 Tryz.underlying3 a1 ah (some (Xa g 0)) i c (xs.take (i*1)) W (n+1-i) (by omega) (by omega) (by omega) (by omega) (by rw [a3];omega) (by rw [a3,I];exact growslice_fits ad (by omega));rw [I] at h;rw [a7];exact h
 obtain ⟨f,G⟩:∃ f,f=grownCap w (n+1) c 140:=⟨_,rfl⟩;have al:n+1<=f:=by rw [G];exact grownCap_ge w _ _ _
 have a8:f<=maxLen:=by rw [G];exact grownCap_le_maxLen w (n+1) c 140 (by unfold maxLen;omega)
 have aA:f<=9223372036854775807:=by unfold maxLen at a8;omega
 obtain ⟨a,C⟩:∃ a:Array Value,a=(xs.take (i*1)).toArray++Builtin.zeroCells ((.pointer none):Value).cells (n+1-i)++Builtin.zeroCells ((.pointer none):Value).cells (f-(n+1)):=⟨_,rfl⟩;rw [<- G] at F;rw [<- C] at F;have ao:(((.pointer none):Value).cells).size=1:=rfl;have a9:a.size=f*1:=by rw [C,Array.size_append,Array.size_append,size_zeroCells,size_zeroCells,ao,size_toArray,length_take];omega
 have J:a.toList.take (i*1)=xs.take (i*1):=by rw [C,Array.toList_append,Array.toList_append,append_assoc,take_append_of_le_length (by simp;omega),toList_toArray,take_take,Nat.min_self]
 obtain ⟨k,v⟩:∃ k,k=w.drew.alloc (.cells a 140):=⟨_,rfl⟩;have y:k.ownsRow 0 140 1 (Xe w.heap.size (n+1) f) (n+1) (a.toList.take ((n+1)*1)):=by refine ⟨by rw [length_take,Array.length_toList];omega,.inr ⟨w.heap.size,f,a,rfl,Nat.zero_le _,by rw [v];exact heap_alloc_new w.drew _,al,a8,a9,rfl⟩⟩
 rw [<- v] at F;have D:∀ b,b<w.heap.size->k.heap[b]?=w.heap[b]?:=λb hb=>by rw [v];exact heap_alloc_old w.drew _ hb
 have T:Nat.min 1 (n+1-i)=1:=by show min _ _=_;omega
 have s:(a.toList.take ((n+1)*1)).length=(n+1)*1:=y.1;have af:∀ (d:World),(∀ x,d.cell? x=k.cell? x)->(∀ x,d.frozen? x=k.frozen? x)->∀ m r,(Builtin.copy_ #[146,146] m #[.slice (some (Xa w.heap.size i)) (n+1-i) r,Xe p 1 1]).run Tryz.prog d=.ok (goInt 1) (d.setCells w.heap.size (i) u):=λd z K m r=>by
  have h:=Qbo (P:=Tryz.prog) d 146 146 m 140 1 w.heap.size (i) (n+1-i) r (Xa p 0) 1 1 u Tryz.underlying146 a5 (by rw [T,N])
   (λj x l=>by
    rw [ZS,Nat.zero_add,z,Xk p j (D p ak)]
    exact a6 j x l)
   (λj q=>by rw [z,y.cellAt _ (by omega),getElem?_eq_getElem (by rw [s];omega)];rfl) (λj q=>by rw [K];exact y.frozenAt _) ag
  rw [T] at h;exact h
 obtain ⟨o,A⟩:∃ o,o=xs.drop (i*1):=⟨_,rfl⟩;have X:o.length=(n-i)*1:=by rw [A,length_drop,a4];omega
 have E:=J9 u (i) y;have ap:g≠w.heap.size:=by omega
 have U:Nat.min (n-i) (n-i)=n-i:=by show min _ _=_;omega
 have Y:∀ (d:World),(∀ x,d.cell? x=(k.setCells w.heap.size (i) u).cell? x)->(∀ x,d.frozen? x=(k.setCells w.heap.size (i) u).frozen? x)->∀ m r O,(Builtin.copy_ #[146,146] m #[.slice (some (Xa w.heap.size (i+1))) (n-i) r,.slice (some (Xa g i)) (n-i) O]).run Tryz.prog d=.ok (goInt ((n-i:Nat):Int)) (d.setCells w.heap.size (i+1) o):=λd z K m r O=>by
  have h:=Qbo (P:=Tryz.prog) d 146 146 m 140 1 w.heap.size (i+1) (n-i) r (Xa g i) (n-i) O o Tryz.underlying146 a5 (by rw [U];exact X)
   (λj x l=>by
    have aG:=(List.getElem?_eq_some_iff.1 l).1
    rw [ZS,z,World.cell?_setCells_out _ _ _ _ _ (λh _=>absurd h ap),Xk g _ (D g aj)]
    rw [A,getElem?_drop] at l
    rw [t.cellAt _ (by omega)]
    rw [Nat.mul_one] at l;exact l)
   (λj q=>by rw [z,E.cellAt _ (by omega),getElem?_eq_getElem (by rw [Qbe,s];omega)];rfl)
   (λj q=>by rw [K];exact E.frozenAt _) (λx l=>B x (by rw [A] at l;exact mem_of_mem_drop l))
  rw [U] at h;exact h
 have a0:∀ d:World,d.heap=((k.setCells w.heap.size (i) u).setCells w.heap.size (i+1) o).heap->d.os=w.os/\d.tape=w.tape/\d.output=w.output->Qdf w (Xe g n c) n (xs.take (i*1)++u++xs.drop (i*1)) (.returned (Xe w.heap.size (n+1) f)) d:=λd L M=>by
  have ab:=J9 o (i+1) E;have ac:=Jj w.heap.size o (i+1) (k.setCells w.heap.size (i) u);have R:=Jj w.heap.size u (i) k;have e:Zj (Zj (a.toList.take ((n+1)*1)) (i) u) (i+1) o=xs.take (i*1)++u++xs.drop (i*1):=by
   have ax:Zj (a.toList.take ((n+1)*1)) (i) u=xs.take (i)++u++(a.toList.take ((n+1)*1)).drop (i+u.length):=by rw [Qa7 _ _ _ (by rw [s];omega),take_take,Nat.min_eq_left (by omega)];rw [Nat.mul_one] at J;rw [J]
   have ae:(xs.take (i)++u).length=i+1:=by rw [length_append,length_take,N];omega
   rw [Qa7 _ _ _ (by rw [Qbe,s];omega),drop_of_length_le (by rw [Qbe,s];omega),append_nil,ax];have:=take_left (l₁:=xs.take (i)++u) (l₂:=(a.toList.take ((n+1)*1)).drop (i+u.length));rw [ae] at this;rw [this,A];rw [Nat.mul_one]
  rw [e] at ab;have aq:k.heap.size=w.heap.size+1:=by rw [v];simp
  have aH:d.heap.size=w.heap.size+1:=by rw [L,ac.2,R.2,aq]
  refine ⟨_,rfl,QT ab (λb _=>by rw [L]),⟨M.1,M.2.1,M.2.2,by omega,λb hb _=>?_⟩,.inr ⟨w.heap.size,rfl,Nat.le_refl _⟩⟩;rw [L];exact (ac.1.block b (by rw [R.2];omega) (λe=>by have:=Option.some.inj e;omega)).trans ((R.1.block b (by omega) (λe=>by have:=Option.some.inj e;omega)).trans (D b hb))
 have ay:=Qa a0;subst v;have ar:∀ x,((w.alloc (.cells a 140)).drew).cell? x=(w.drew.alloc (.cells a 140)).cell? x:=λx=>rfl;have au:∀ x,((w.alloc (.cells a 140)).drew).frozen? x=(w.drew.alloc (.cells a 140)).frozen? x:=λx=>rfl;have av:∀ x,(((w.alloc (.cells a 140)).drew.setCells w.heap.size (i) u).drew).cell? x=((w.drew.alloc (.cells a 140)).setCells w.heap.size (i) u).cell? x:=λx=>rfl;have aw:∀ x,(((w.alloc (.cells a 140)).drew.setCells w.heap.size (i) u).drew).frozen? x=((w.drew.alloc (.cells a 140)).setCells w.heap.size (i) u).frozen? x:=λx=>rfl;have aI:(c:Int)<(n:Int)+1:=by omega
 have aJ:¬ (f=i):=by omega
 have aB:¬ (f=i+1):=by omega
 have aK:¬ (c=i):=by omega
 have aC:¬ ((i:Int)=(n:Int)):=by omega
 have aL:IntKind.i64.wrap ((i:Int)+1)=(i:Int)+1:=by rw [IntKind.wrap_i64];omega
 have aM:(0:Int)<=(i:Int)+1:=by omega
 have aN:i<=n:=by omega
 have aO:((i:Int)+1).toNat=i+1:=by omega
 have aP:(i:Int)<=(n:Int):=by omega
 clear a7 I W C G a9 t y E a0 V H a6 a4 X A N D J s ai;go_enter Tryz.func96,Tryz.ntmps96
 go_wp2_with (first
  | (at_builtin;refine Lib.wpList_append_run _ rfl _ _ _ _ rfl _ _ rfl rfl _ _ (F _) ?_)
  | (at_builtin;refine wpList_copy_runI _ rfl _ _ 146 146 rfl _ _ rfl rfl (af _ ar au _ _) ?_)
  | (at_builtin;refine wpList_copy_runI _ rfl _ _ 146 146 rfl _ _ rfl rfl (Y _ (λ_=>rfl) (λ_=>rfl) _ _ _) ?_))
 go_region_law (refine step_copy_runI rfl _ _ 146 146 rfl (.slice (some (Xa w.heap.size (i+1))) (n-i) (f-(i+1))) (.slice (some (Xa g i)) (n-i) (c-i)) (by simp [Act.eval,Act.put]) (by simp [Act.eval,Act.put]) (Y _ av aw 3 (f-(i+1)) (c-i)) ?_);go_wp2;go_ret;have B:=(Jj w.heap.size o (i+1) ((w.alloc (.cells a 140)).drew.setCells w.heap.size (i) u).drew).1;have S:=(Jj w.heap.size u (i) (w.alloc (.cells a 140)).drew).1;exact ay.out _ (by rw [Qib];rfl) ⟨B.os.trans S.os,B.tape.trans S.tape,B.output.trans S.output⟩
theorem Qmd (v:Value) (n i a:Nat) (xs u:List Value) (w:World) (b:w.ownsRow 0 140 1 v n xs) (r:i<=n) (j:n<=1000000) (k:∀ x ∈ xs,x.oneCell'=true) (h:u.length=1) (d:∀ x ∈ u,x.oneCell'=true) (f:w.heap[a]?=some (.cells u.toArray 140 (0,0))) (l:v.ownBlock≠some a) : Xl 96 #[v,Xi i,Xe a 1 1] w (Qdf w v n (xs.take (i*1)++u++xs.drop (i*1))):=by
 have p:=b.1;by_cases e:i=n
 ·have m:xs.take (i*1)++u++xs.drop (i*1)=xs++u:=by rw [take_of_length_le (by omega),drop_of_length_le (by omega),append_nil]
  rw [m];exact QuM v n i a xs u w b e j h d f
 rcases b.2 with ⟨_,s⟩|⟨g,c,q,rfl,_⟩
 ·omega
 by_cases o:n+1<=c
 ·exact Qog g n c i a xs u w b (by omega) o k h d f (λe=>l (by rw [e];rfl))
 exact QoU g n c i a xs u w b (by omega) (by omega) j k h d f
theorem QrZ (g n c i j:Nat) (xs:List Value) (w:World) (l:w.ownsRow 0 140 1 (Xe g n c) n xs) (ag:i<n) (E:j=i+1) (G:∀ x ∈ xs,x.oneCell'=true) : Xl 174 #[Xe g n c,Xi i,Xi j] w λe w'=>e=.returned (Xe g (n-1) c) /\ w'.ownsRow 0 140 1 (Xe g (n-1) c) (n-1) (xs.take (i*1)++xs.drop ((i+1)*1))/\w.grownBy w' (some g)/\w'.heap.size=w.heap.size:=by
 obtain ⟨a4,I,a5,a6,K⟩:=Qcp l;obtain ⟨O,L,a7,M,a8⟩:=info_parts QgB;have v:=l.1;have ah:c<=9223372036854775807:=by unfold maxLen at K;omega
 obtain ⟨a,q⟩:∃ a,a=xs.drop (j*1):=⟨_,rfl⟩;have s:a.length=(n-j)*1:=by rw [q,length_drop,v];omega
 have D:∀ k,k<n*1->∃ u,w.cell? (Xa g k)=some u:=λk ai=>⟨xs[k]'(by omega),by rw [l.cellAt k (by omega),getElem?_eq_getElem (by omega)]⟩;obtain ⟨A,aj,J⟩:∃ A:Addr,(if c=j then some ((Xa g 0):Addr) else some (Xa g j))=some A/\Hid (∀ t u,a[t]?=some u->w.drew.cell? (A.add t)=some u):=by
  by_cases h:c=j
  ·refine ⟨(Xa g 0),by simp [h],λt u d=>?_⟩;have P:a.length=0:=by omega
   rw [length_eq_zero_iff.1 P] at d;simp at d
  refine ⟨(Xa g j),by simp [h],λt u d=>?_⟩;have r:=(List.getElem?_eq_some_iff.1 d).1;rw [q,getElem?_drop] at d;rw [ZS];show w.cell? _=_;have a9:=(List.getElem?_eq_some_iff.1 d).1;rw [l.cellAt _ (by omega)];rw [Nat.mul_one] at d;exact d
 have R:Hid (a.length=(n-j)*1):=s;have S:Hid (∀ u ∈ a,u.oneCell'=true):=λu d=>G u (by rw [q] at d;exact mem_of_mem_drop d);have T:Hid (∀ t,t<a.length->(w.drew.cell? (Xa g (0+i*1+t))).isSome=true/\w.drew.frozen? (Xa g (0+i*1+t))=false):=by intro t r;rw [s] at r;obtain ⟨u,d⟩:=D (0+i*1+t) (by omega);exact ⟨by show (w.cell? _).isSome=true;rw [d];rfl,l.frozenAt _⟩
 obtain ⟨f,y⟩:∃ f,f=w.drew.setCells g (0+i*1) a:=⟨_,rfl⟩;have z:f.ownsRow 0 140 1 (Xe g n c) n (Zj xs (0+i*1) a):=by rw [y];exact J9 a (0+i*1) l.drew
 have N:(Zj xs (0+i*1) a).length=n*1:=by rw [Qbe,v]
 have a2:i+(n-j)=n-1:=by omega
 have aa:∀ C k,(Builtin.clear_ #[146] C #[.slice (some (Xa g ((n-1)))) (n-(n-1)) k]).run Tryz.prog f=.ok (.tuple #[]) (f.setCells g ((n-1)) [.pointer none]):=λC k=>by rw [show n-(n-1)=1 by omega];refine QjX f 146 140 C (.pointer none) [.pointer none] Tryz.underlying146 (λw=>Tryz.zeroValue140 w) rfl (by simp) (by simp [Value.oneCell']) g ((n-1)) k (λt r=>?_) (λt _=>z.frozenAt _);have r:t<1:=r;rw [z.cellAt _ (by omega),getElem?_eq_getElem (by omega)];rfl
 have B:=Jj g a (0+i*1) w.drew;rw [<- y] at B;have U:=Qa z;have V:Hid (f=w.drew.setCells g (0+i*1) a):=y;have o:=Qa B;have W:=Qa q;have X:=Qa v;have Y:=Qa s;have a0:=Qa E;have ab:i<=c:=by omega
 have ac:j<=c:=by omega
 have ad:j<=n:=by omega
 have ae:¬ ((i:Int)=(j:Int)):=by omega
 have af:n-(i+(n-j))=1:=by omega
 have a3:i<=j:=by omega
 clear y z B q v s D l G I N E;go_enter Tryz.func174,Tryz.ntmps174;go_wp2;go_region_law (refine step_append_room rfl (.tmp 22) (.tmp 25) 146 rfl 140 O 1 Tryz.underlying146 L M g 0 i c (by simp [Act.eval,Act.put]) A (n-j) (c-j) a (by simp [Act.eval,Act.put]) R.out J.out S.out (by omega) T.out ?_;rw [<- V.out]);go_wp2;go_ret;have F:=Qif (J9 [.pointer none] ((n-1)) U.out) (m:=n-1) (by omega);have p:=Jj g [.pointer none] ((n-1)) f;have ak:=X.out;have a1:=a0.out;refine ⟨rfl,?_,⟨p.1.os.trans o.out.1.os,p.1.tape.trans (o.out.1.tape.trans ?_),p.1.output.trans o.out.1.output,?_,λb hb H=>(p.1.block b (by rw [o.out.2];exact hb) H).trans (o.out.1.block b hb H)⟩,by rw [p.2,o.out.2];rfl⟩
 ·have e:(Zj (Zj xs (0+i*1) a) ((n-1)) [.pointer none]).take ((n-1)*1)=xs.take (i*1)++xs.drop ((i+1)*1):=by rw [Qa7 _ _ _ (by rw [Qbe];simp;omega),Qa7 _ _ _ (by rw [Y.out];omega),W.out,a1];rw [append_assoc (List.take _ (_++_)),take_append_of_le_length (by simp;omega),take_take,Nat.min_eq_left (by omega),take_append_of_le_length (by simp;omega),take_of_length_le (by simp;omega)];rw [Nat.zero_add]
  rw [e] at F;exact F
 ·rfl
 rw [p.2,o.out.2];exact Nat.le_refl _
theorem Qei {a b:ByteArray} (h:a.toList=b.toList):a=b:=by rw [ByteArray.toList_eq,ByteArray.toList_eq] at h;apply ByteArray.ext;exact Array.ext' h
theorem Qit {a b:ByteArray} (h:ZK a b=true):a=b:=Qei (Qfg.1 h)
theorem QgG {l:List (ByteArray × ByteArray)} {k:Nat} (h:k<l.length):l.take (k+1)=l.take k++[l[k]]:=by rw [take_succ_eq_append_getElem h]
theorem Qk2 {l:List (ByteArray × ByteArray)} {nm vl:ByteArray} (f:Zw l):∀ k,k<=Qs l nm->Qav l nm vl k=(l.take k,false):=by
 intro k;induction k with
 | zero=>intro _;rfl
 | succ k ih =>
  intro h;have a:k<l.length:=by have:=Qdn l nm;omega
  have b:=(QbU (nm:=nm) f k a).2 (by omega);have c:ZK l[k].1 nm=false:=by cases g:ZK l[k].1 nm with| false=>rfl| true=>rw [Qjz g] at b;cases b
  have d:Op.bytesLess l[k].1.toList nm.toList=true:=b;unfold Qav;simp only [ih (by omega),Qcr a,d,c,QgG a];simp
def JA (l:List (ByteArray × ByteArray)) (nm:ByteArray):Nat:=if Zc l nm then 1 else 0
theorem Qro {l:List (ByteArray × ByteArray)} {nm vl:ByteArray} (b:Zw l):∀ k,k<=l.length->Qs l nm<k->Qav l nm vl k=(l.take (Qs l nm)++[(nm,vl)]++(l.take k).drop (Qs l nm+JA l nm),true):=by
 intro k;induction k with
 | zero=>intro _ h;exact absurd h (Nat.not_lt_zero _)
 | succ k ih =>
  intro p q;have a:k<l.length:=by omega
  have c:Op.bytesLess l[k].1.toList nm.toList=false:=by cases i:Op.bytesLess l[k].1.toList nm.toList with| false=>rfl| true=>have:=(QbU (nm:=nm) b k a).1 i;omega
  by_cases e:k=Qs l nm
  ·have j:Zc l nm=ZK l[k].1 nm:=by unfold Zc;rw [<- e,decide_eq_true a,Bool.true_and,Qcr a]
   unfold Qav;simp only [Qk2 (nm:=nm) (vl:=vl) b k (by omega),Qcr a,c];unfold JA;rw [j,<- e];cases n:ZK l[k].1 nm with| true =>simp| false =>simp;rw [QgG a,drop_append,drop_of_length_le (by rw [length_take];omega),length_take,Nat.min_eq_left (by omega),Nat.sub_self];rfl
  have g:ZK l[k].1 nm=false:=by
   cases m:ZK l[k].1 nm with
   | false=>rfl
   | true =>
    have d:Qs l nm<l.length:=by omega
    have f:Q1 l[Qs l nm].1 l[k].1=true:=pairwise_iff_getElem.1 b _ _ d a (by omega);rw [Qjm m] at f;have:=(QbU (nm:=nm) b _ d).1 f;omega
  unfold Qav;simp only [ih (by omega) (by omega),Qcr a,c,g];simp;have o:JA l nm<=1:=by unfold JA;split<;>omega
  rw [QgG a,drop_append_of_le_length (by rw [length_take];omega)]
theorem Qfa {l:List (ByteArray × ByteArray)} {nm vl:ByteArray} (a:Zw l):ZZ l nm vl=l.take (Qs l nm)++[(nm,vl)]++l.drop (Qs l nm+JA l nm):=by
 have c:=Qdn l nm;unfold ZZ;by_cases e:Qs l nm<l.length
 ·rw [Qro a _ (Nat.le_refl _) e];simp
 have e:Qs l nm=l.length:=by omega
 rw [Qk2 (nm:=nm) (vl:=vl) a _ (by omega)];have b:JA l nm=0:=by unfold JA Zc;rw [decide_eq_false (by omega)];rfl
 rw [b,e];simp
theorem QfD {l:List (ByteArray × ByteArray)} {nm vl:ByteArray} (d:Zw l):Zw (ZZ l nm vl):=by
 rw [Qfa d];have r:=Qdn l nm;have k:∀ x,x ∈ l.take (Qs l nm)->Q1 x.1 nm=true:=λx a=>by obtain ⟨i,g,rfl⟩:=getElem_of_mem a;rw [length_take] at g;rw [getElem_take];exact (QbU d i (by omega)).2 (by omega)
 have m:∀ x,x ∈ l.drop (Qs l nm+JA l nm)->Q1 nm x.1=true:=λx a=>by
  obtain ⟨i,g,rfl⟩:=getElem_of_mem a;rw [length_drop] at g;rw [getElem_drop];cases b:Zc l nm with
  | true =>
   have p:JA l nm=1:=by unfold JA;rw [b];rfl
   have c:Qs l nm<l.length:=by omega
   have n:ZK l[Qs l nm].1 nm=true:=by unfold Zc at b;rw [decide_eq_true c,Bool.true_and,Qcr c] at b;exact b
   have:=pairwise_iff_getElem.1 d _ (Qs l nm+JA l nm+i) c (by omega) (by omega);rw [QjU n] at this;exact this
  | false =>
   have p:JA l nm=0:=by unfold JA;rw [b];rfl
   have c:Qs l nm<l.length:=by omega
   have o:Q1 l[Qs l nm].1 nm=false:=by cases a:Q1 l[Qs l nm].1 nm with| false=>rfl| true=>have:=(QbU d _ c).1 a;omega
   have j:Q1 nm l[Qs l nm].1=true:=by cases a:Q1 nm l[Qs l nm].1 with| true=>rfl| false =>have:=QtF _ _ o a;unfold Zc at b;rw [decide_eq_true c,Bool.true_and,Qcr c] at b;rw [Qfg.2 this] at b;cases b
   by_cases q:i=0
   ·subst q;have e:Qs l nm+JA l nm+0=Qs l nm:=by omega
    simp only [e];exact j
   have:=pairwise_iff_getElem.1 d _ (Qs l nm+JA l nm+i) c (by omega) (by omega);exact Qfh _ _ _ j this
 unfold Zw;rw [append_assoc,pairwise_append];refine ⟨d.sublist (take_sublist _ _),?_,λx a h f=>?_⟩
 ·rw [singleton_append,pairwise_cons];exact ⟨λh f=>m h f,d.sublist (drop_sublist _ _)⟩
 rcases mem_append.1 f with f|f
 ·rw [mem_singleton.1 f];exact k x a
 exact Qfh _ _ _ (k x a) (m h f)
theorem Qoz (g n c i j:Nat) (xs:List Value) (w:World) (l:w.ownsRow 0 96 2 (Xe g n c) n xs) (ag:i<n) (E:j=i+1) (G:∀ x ∈ xs,x.oneCell'=true) : Xl 148 #[Xe g n c,Xi i,Xi j] w λe w'=>e=.returned (Xe g (n-1) c) /\ w'.ownsRow 0 96 2 (Xe g (n-1) c) (n-1) (xs.take (i*2)++xs.drop ((i+1)*2))/\w.grownBy w' (some g)/\w'.heap.size=w.heap.size:=by
 obtain ⟨a4,I,a5,a6,K⟩:=Qcp l;obtain ⟨O,L,a7,M,a8⟩:=info_parts Qdc;have v:=l.1;have ah:c<=9223372036854775807:=by unfold maxLen at K;omega
 obtain ⟨a,q⟩:∃ a,a=xs.drop (j*2):=⟨_,rfl⟩;have s:a.length=(n-j)*2:=by rw [q,length_drop,v];omega
 have D:∀ k,k<n*2->∃ u,w.cell? (Xa g k)=some u:=λk ai=>⟨xs[k]'(by omega),by rw [l.cellAt k (by omega),getElem?_eq_getElem (by omega)]⟩;obtain ⟨A,aj,J⟩:∃ A:Addr,(if c=j then some ((Xa g 0):Addr) else some (Xa g (j*2)))=some A/\Hid (∀ t u,a[t]?=some u->w.drew.cell? (A.add t)=some u):=by
  by_cases h:c=j
  ·refine ⟨(Xa g 0),by simp [h],λt u d=>?_⟩;have P:a.length=0:=by omega
   rw [length_eq_zero_iff.1 P] at d;simp at d
  refine ⟨(Xa g (j*2)),by simp [h],λt u d=>?_⟩;have r:=(List.getElem?_eq_some_iff.1 d).1;rw [q,getElem?_drop] at d;rw [ZS];show w.cell? _=_;have a9:=(List.getElem?_eq_some_iff.1 d).1;rw [l.cellAt _ (by omega)];exact d
 have R:Hid (a.length=(n-j)*2):=s;have S:Hid (∀ u ∈ a,u.oneCell'=true):=λu d=>G u (by rw [q] at d;exact mem_of_mem_drop d);have T:Hid (∀ t,t<a.length->(w.drew.cell? (Xa g (0+i*2+t))).isSome=true/\w.drew.frozen? (Xa g (0+i*2+t))=false):=by intro t r;rw [s] at r;obtain ⟨u,d⟩:=D (0+i*2+t) (by omega);exact ⟨by show (w.cell? _).isSome=true;rw [d];rfl,l.frozenAt _⟩
 obtain ⟨f,y⟩:∃ f,f=w.drew.setCells g (0+i*2) a:=⟨_,rfl⟩;have z:f.ownsRow 0 96 2 (Xe g n c) n (Zj xs (0+i*2) a):=by rw [y];exact J9 a (0+i*2) l.drew
 have N:(Zj xs (0+i*2) a).length=n*2:=by rw [Qbe,v]
 have a2:i+(n-j)=n-1:=by omega
 have aa:∀ C k,(Builtin.clear_ #[45] C #[.slice (some (Xa g ((n-1)*2))) (n-(n-1)) k]).run Tryz.prog f=.ok (.tuple #[]) (f.setCells g ((n-1)*2) [Xo,Xo]):=λC k=>by rw [show n-(n-1)=1 by omega];refine QjX f 45 96 C (.agg #[Xo,Xo]) [Xo,Xo] Tryz.underlying45 (λw=>Tryz.zeroValue96 w) rfl (by simp) (by simp [Value.oneCell']) g ((n-1)*2) k (λt r=>?_) (λt _=>z.frozenAt _);have r:t<2:=r;rw [z.cellAt _ (by omega),getElem?_eq_getElem (by omega)];rfl
 have B:=Jj g a (0+i*2) w.drew;rw [<- y] at B;have U:=Qa z;have V:Hid (f=w.drew.setCells g (0+i*2) a):=y;have o:=Qa B;have W:=Qa q;have X:=Qa v;have Y:=Qa s;have a0:=Qa E;have ab:i<=c:=by omega
 have ac:j<=c:=by omega
 have ad:j<=n:=by omega
 have ae:¬ ((i:Int)=(j:Int)):=by omega
 have af:n-(i+(n-j))=1:=by omega
 have a3:i<=j:=by omega
 clear y z B q v s D l G I N E;go_enter Tryz.func148,Tryz.ntmps148;go_wp2;go_region_law (refine step_append_room rfl (.tmp 22) (.tmp 25) 45 rfl 96 O 2 Tryz.underlying45 L M g 0 i c (by simp [Act.eval,Act.put]) A (n-j) (c-j) a (by simp [Act.eval,Act.put]) R.out J.out S.out (by omega) T.out ?_;rw [<- V.out]);go_wp2;go_ret;have F:=Qif (J9 [Xo,Xo] ((n-1)*2) U.out) (m:=n-1) (by omega);have p:=Jj g [Xo,Xo] ((n-1)*2) f;have ak:=X.out;have a1:=a0.out;refine ⟨rfl,?_,⟨p.1.os.trans o.out.1.os,p.1.tape.trans (o.out.1.tape.trans ?_),p.1.output.trans o.out.1.output,?_,λb hb H=>(p.1.block b (by rw [o.out.2];exact hb) H).trans (o.out.1.block b hb H)⟩,by rw [p.2,o.out.2];rfl⟩
 ·have e:(Zj (Zj xs (0+i*2) a) ((n-1)*2) [Xo,Xo]).take ((n-1)*2)=xs.take (i*2)++xs.drop ((i+1)*2):=by rw [Qa7 _ _ _ (by rw [Qbe];simp;omega),Qa7 _ _ _ (by rw [Y.out];omega),W.out,a1];rw [append_assoc (List.take _ (_++_)),take_append_of_le_length (by simp;omega),take_take,Nat.min_eq_left (by omega),take_append_of_le_length (by simp;omega),take_of_length_le (by simp;omega)];rw [Nat.zero_add]
  rw [e] at F;exact F
 ·rfl
 rw [p.2,o.out.2];exact Nat.le_refl _
end Go.Proofs.YtobgcaemnpkbmaaGreatDoor
