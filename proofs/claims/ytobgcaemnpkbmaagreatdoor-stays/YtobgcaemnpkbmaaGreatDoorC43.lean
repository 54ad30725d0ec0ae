import Derived.Test.YtobgcaemnpkbmaaGreatDoorC42
namespace Go.Proofs.YtobgcaemnpkbmaaGreatDoor
set_option maxRecDepth 100000
set_option maxHeartbeats 8000000
open Go.RowKit List
structure Qhc (n:Nat) (all:Int) (cm:List (Int × Int)) (ev:List Ev):Prop where
 upto:Zg cm=all
 rise:cm.Pairwise λa b=>a.1<b.1
 cms:∀ c,c ∈ cm->1<=c.1/\1<=c.2
 evo:∀ e,e ∈ ev->Qc7 n cm e
 evp:ev.Pairwise λa b=>a.vs<=b.vs
 few:cm.length<=1000/\ev.length<=1000
theorem QfI {l:Nat} {w:World} {j:Option Addr} {n c:Nat} {cm:List (Int × Int)} (h:w.ownsRow l 69 2 (.slice j n c) n (JN cm)) {i:Nat} {x:Int × Int} (o:i<n) (a:cm[i]?=some x):∃ g,j=some ⟨g,0,none⟩/\w.cell? ⟨g,i*2,none⟩=some (.int .i64 x.1)/\w.cell? ⟨g,i*2+1,none⟩=some (.int .i64 x.2)/\g<w.heap.size:=by
 rcases h.2 with ⟨_,e⟩|⟨g,cap,m,e,_,k,_⟩
 ·omega
 obtain ⟨rfl,_,_⟩:=Value.slice.inj e;have b:=h.cellAt (i*2) (by omega);have d:=h.cellAt (i*2+1) (by omega);have f:=QgV cm i 0 (by omega);rw [Nat.add_zero] at f;rw [f,a] at b;rw [QgV cm i 1 (by omega),a] at d;exact ⟨g,rfl,b,d,QN k⟩
theorem Qs0 {n:Nat} {a:Int} {cm:List (Int × Int)} {ev:List Ev} (h:Qhc n a cm ev) {r:Nat} {w:World} {m:Option Addr} {c:Nat} (o:w.ownsRow r 69 2 (.slice m cm.length c) cm.length (JN cm)):(cm.length=0/\a=0) \/ ∃ k g,cm.length=k+1/\k<1000/\0<a/\m=some ⟨g,0,none⟩/\w.cell? ⟨g,k*2,none⟩=some (.int .i64 a):=by have b:=h.upto;cases d:cm.length with| zero =>have:cm=[]:=length_eq_zero_iff.1 d;subst this;exact .inl ⟨rfl,b.symm⟩| succ k =>have f:=getElem?_eq_getElem (l:=cm) (i:=k) (by omega);obtain ⟨g,p,j,_,_⟩:=QfI o (by omega) f;have q:=Qia cm k d _ f;have:=(h.cms _ (getElem_mem (by omega:k<cm.length))).1;have:=h.few.1;rw [q,b] at j;exact .inr ⟨k,g,rfl,by omega,by omega,p,j⟩
theorem Qd3 {t:Nat} {w:World} {m:Option Addr} {n c:Nat} {ev:List Ev} (h:w.ownsRow t 38 4 (.slice m n c) n (evL ev)) {i:Nat} {x:Ev} (v:i<n) (a:ev[i]?=some x):∃ g,m=some ⟨g,0,none⟩/\w.cell? ⟨g,i*4,none⟩=some (.int .i64 x.tk)/\w.cell? ⟨g,i*4+1,none⟩=some (.int .i64 x.kd)/\w.cell? ⟨g,i*4+2,none⟩=some (.int .i64 x.vs)/\w.cell? ⟨g,i*4+3,none⟩=some (.int .i64 x.up)/\g<w.heap.size:=by
 have key:∀ (l:List Ev) (i r:Nat),r<4->(evL l)[i*4+r]?=(l[i]?).bind λe=>[Value.int .i64 e.tk,.int .i64 e.kd,.int .i64 e.vs,.int .i64 e.up][r]?:=by
  intro l;induction l with
  | nil=>intro i r _;simp [evL]
  | cons e l ih =>
   intro i r o;have p:evL (e::l)=[Value.int .i64 e.tk,.int .i64 e.kd,.int .i64 e.vs,.int .i64 e.up]++evL l:=rfl;rw [p];cases i with
   | zero=>rw [getElem?_append_left (by simp;omega)];simp
   | succ i =>
    rw [getElem?_append_right (by simp;omega)];have q:(i+1)*4+r-[Value.int .i64 e.tk,.int .i64 e.kd,.int .i64 e.vs,.int .i64 e.up].length=i*4+r:=by simp;omega
    rw [q,ih i r o];simp
 rcases h.2 with ⟨_,e⟩|⟨g,cap,u,e,_,s,_⟩
 ·omega
 obtain ⟨rfl,_,_⟩:=Value.slice.inj e;have b:=h.cellAt (i*4) (by omega);have d:=h.cellAt (i*4+1) (by omega);have f:=h.cellAt (i*4+2) (by omega);have j:=h.cellAt (i*4+3) (by omega);have k:=key ev i 0 (by omega);rw [Nat.add_zero] at k;rw [k,a] at b;rw [key ev i 1 (by omega),a] at d;rw [key ev i 2 (by omega),a] at f;rw [key ev i 3 (by omega),a] at j;exact ⟨g,rfl,b,d,f,j,QN s⟩
structure QbE (w4:World) (lb n:Nat) (ev:List Ev) (m:Nat) (wr:World):Prop where
 ls:∃ ls:List Int,ls.length=n+1/\(∀ (t:Nat) x,ls[t]?=some x->wr.cell? ⟨lb,t,none⟩=some (.int .i64 x))/\∀ x,x ∈ ls->∀ e,e ∈ ev.drop m->x<=e.vs
 froz:∀ t,wr.frozen? ⟨lb,t,none⟩=false
 keep:Below lb w4 wr
theorem QbE.start (a:World) (n:Nat) {ev:List Ev} (d:∀ e,e ∈ ev->0<=e.vs):QbE a a.heap.size n ev 0 (a.alloc (.cells (madeCells #[.int .i64 0] (n+1)) 3)):=by
 have c:(a.alloc (.cells (madeCells #[.int .i64 0] (n+1)) 3)).heap[a.heap.size]?=some (.cells (madeCells #[.int .i64 0] (n+1)) 3 (0,0)):=heap_alloc_new a _;refine ⟨⟨List.replicate (n+1) 0,by simp,λt x b=>?_,λx b e f=>?_⟩,λt=>Jp c t,(Below.refl _ _).alloc (Nat.le_refl _) _⟩
 ·refine Qf c t _ ?_;rw [<- Array.getElem?_toList,Qmh];unfold Qt;rw [getElem?_map,b];rfl
 rw [(List.mem_replicate.1 b).2];exact d e f
theorem QbE.next {j:World} {d n:Nat} {ev:List Ev} {m:Nat} {wr:World} (h:QbE j d n ev m wr) (r:ev.Pairwise λa b=>a.vs<=b.vs) {e:Ev} (k:ev[m]?=some e) {t:Nat} (C:t<n+1) (nq:Nat):QbE j d n ev (m+1) ((wr.drewN nq).setCell ⟨d,t,none⟩ (.int .i64 e.vs)):=by
 obtain ⟨u,v,l,y⟩:=h.ls;have f:=(List.getElem?_eq_some_iff.1 k).1;have B:Below wr.heap.size wr (wr.drewN nq):=QL (Below.refl _ _) nq;have o:∀ t,(wr.drewN nq).cell? ⟨d,t,none⟩=wr.cell? ⟨d,t,none⟩:=λt=>rfl;refine ⟨⟨u.set t e.vs,by rw [length_set];exact v,λs x c=>?_,λx c e' g=>?_⟩,λs=>(World.frozen?_setCell ..).trans (h.froz s),(QL h.keep nq).setCell (Nat.le_refl _) _⟩
 ·by_cases q:s=t
  ·subst q;rw [getElem?_set_self (by omega)] at c;rw [<- Option.some.inj c];exact World.cell?_setCell_same _ _ _ ((o s).trans (l s _ (getElem?_eq_getElem (by omega))))
  rw [getElem?_set_ne (λe=>q e.symm)] at c;exact (Z8 _ _ _ _ _ q).trans ((o s).trans (l s x c))
 have z:=drop_eq_getElem_cons f;have p:ev[m]=e:=Option.some.inj ((getElem?_eq_getElem f).symm.trans k);rcases mem_or_eq_of_mem_set c with c|rfl
 ·exact y x c e' (by rw [z];exact mem_cons_of_mem _ g)
 obtain ⟨i,A,rfl⟩:=getElem_of_mem g;rw [length_drop] at A;rw [getElem_drop,<- p];exact pairwise_iff_getElem.1 r m (m+1+i) f (by omega) (by omega)
theorem Qpo (ah n c:Nat) (ao:Option Addr) (aH:Int) (w:World) (bB:n<=4) (cm:List (Int × Int)) (ev:List Ev) (aR:Qhc n aH cm ev) (A:World->Prop) (bf:Hid (A w)) (S:Hid (∀ wr b,A wr->Below wr.heap.size wr b->A b)) (ax:Hid (∀ (t:Nat) wr,1<=t->t<=n->A wr->Calls Tryz.prog 9 #[.pointer (some ⟨ah,0,none⟩),.int .i64 t] wr λe w'=>e=.returned (.int .i64 8)/\A w')) (ay:Hid (∀ wr,A wr->Calls Tryz.prog 9 #[.pointer (some ⟨ah,0,none⟩),.int .i64 0] wr λe w'=>e=.returned (.int .i64 7)/\A w')) (a3:Hid (∀ wr,A wr->Calls Tryz.prog 26 #[.pointer (some ⟨ah,0,none⟩)] wr (Qiv wr cm))) (T:Hid (∀ wr,A wr->Calls Tryz.prog 10 #[.pointer (some ⟨ah,0,none⟩)] wr (Qf3 wr ev))) : Calls Tryz.prog 11 #[.pointer (some ⟨ah,0,none⟩),.slice ao n c,.int .i64 aH] w λe w'=>e=.returned (.bool true)/\∃ b,A b/\Below b.heap.size b w':=by
 have f:=Qa aR;clear aR;obtain ⟨bg,bh,aZ,b0,b1⟩:=info_parts Qds;have aI:∀ u:World,(Instr.makeSlice 23 (.int .i64 ((n:Int)+1)) (.int .i64 ((n:Int)+1))).run Tryz.prog u=.ok (.slice (some ⟨u.heap.size,0,none⟩) (n+1) (n+1)) (u.alloc (.cells (madeCells #[.int .i64 0] (n+1)) 3)):=λu=>by
  have h:=run_make (P:=Tryz.prog) u 23 3 bg (.int .i64 0) Tryz.underlying23 bh aZ .i64 .i64 ((n:Int)+1) ((n:Int)+1) (by omega) (Int.le_refl _) (by rw [b1];omega) (by omega);have e:((n:Int)+1).toNat=n+1:=by omega
  simpa [b0,Value.cells,e] using h
 go_enter Tryz.func11,Tryz.ntmps11;go_wp2;go_loopw [7] (λi wr=>∃ j:Nat,1<=j/\j<=n+1/\i=.int .i64 j/\Hid (A wr)) (λi _=>n+2-(intOf i).toNat);·exact ⟨1,by omega,by omega,rfl,bf⟩
 case round =>
  obtain ⟨j,b2,br,rfl,al⟩:=hrel;by_cases b3:j<=n
  ·have b4:(j:Int)<=(n:Int):=by omega
   have b5:=Qa (ax.out j wr b2 b3 al.out);have ar:IntKind.i64.wrap ((j:Int)+1)=(j:Int)+1:=by rw [IntKind.wrap_i64];omega
   clear ax ay a3 T S al;go_wp2_with (first|(go_at_call 9;refine b5.out.mono ?_;rintro e w2 ⟨rfl,aa⟩));go_roundw;·exact ⟨j+1,by omega,by omega,by go_num,Qa aa⟩
   simp [intOf];omega
  have b4:¬ (j:Int)<=(n:Int):=by omega
  have b6:=Qa (ay.out wr al.out);clear ax ay al;go_wp2_with (first|(go_at_call 9;refine b6.out.mono ?_;rintro e w2 ⟨rfl,aa⟩;have aJ:=Qa (a3.out w2 aa);have aK:=Qa aa;clear aa)|(go_at_call 26;refine aJ.out.mono ?_;rintro e ai ⟨v,rfl,ak,aL⟩;obtain ⟨bC,bD,rfl⟩:=Qz ak;have aW:=Qs0 f.out ak;have a9:=Qa ak;have au:=Qa aL;generalize aM:cm.length=bE at *;have G:=Qa aM;clear ak aL aM aJ;rcases aW with ⟨rfl,rfl⟩|⟨k,g,rfl,bF,bG,rfl,bH⟩))
  ·go_loopw [11] (λi wr=>wr=ai/\i=.int .i64 0) (λi _=>1-(intOf i).toNat);·exact ⟨rfl,rfl⟩
   case round =>
    obtain ⟨rfl,rfl⟩:=hrel;have ab:=Qa (S.out w2 wr aK.out au.out);have ac:=Qa (T.out wr ab.out);clear T a3 S;go_wp2_with (first|(go_at_call 10;refine ac.out.mono ?_;rintro e r ⟨v,rfl,L,D⟩;obtain ⟨bi,bj,rfl⟩:=Qz L));have U:=Qa L;have av:Hid (∃ b,A b/\Below b.heap.size b r):=Qa ⟨wr,ab.out,D⟩;have b7:=Qa D;have b8:=D.size;obtain ⟨d,M⟩:∃ d,d=ev.length:=⟨_,rfl⟩;rw [<- M];have aX:d<=1000:=by have:=f.out.few.2;omega
    have aw:=Qa M;have ad:=Qa (QbE.start r n (λe az=>(f.out.evo e az).vs.1));generalize r.alloc (.cells (madeCells #[.int .i64 0] (n+1)) 3)=bk at *;obtain ⟨B,N⟩:∃ B,B=r.heap.size:=⟨_,rfl⟩;rw [<- N] at ad ⊢;have V:=Qa N;skip
    clear L D M N ac aI;go_loopw [14] (λi wr=>∃ m:Nat,m<=d/\i=.int .i64 m/\Hid (QbE r B n ev m wr)) (λi _=>d+1-(intOf i).toNat);·exact ⟨0,Nat.zero_le _,rfl,ad⟩
    case round =>
     obtain ⟨m,aS,rfl,o⟩:=hrel;by_cases W:m<d
     ·have s:m<ev.length:=by rw [<- aw.out];exact W
      obtain ⟨x,l⟩:∃ x,ev[m]?=some x:=⟨_,getElem?_eq_getElem s⟩;obtain ⟨I,a4,a5,_,E,J,O⟩:=Qd3 U.out s l;have q:=f.out.evo x (mem_of_getElem? l);have F:=o.out.keep.block I (by rw [V.out];exact O);have q0:=(World.cell?_of_block (a:=⟨I,m*4,none⟩) F).trans a5;have ap:=(World.cell?_of_block (a:=⟨I,m*4+2,none⟩) F).trans E;have aq:=(World.cell?_of_block (a:=⟨I,m*4+3,none⟩) F).trans J;obtain ⟨aj,bl,a6,a7⟩:=o.out.ls;obtain ⟨tn,X⟩:∃ tn:Nat,x.tk=tn:=⟨x.tk.toNat,by have:=q.tk;omega⟩;obtain ⟨C,R⟩:∃ C:Nat,x.vs=C:=⟨x.vs.toNat,by have:=q.vs;omega⟩;have Y:=q.tk;have a0:=q.vs;have K:=q.zero;rw [X] at q0 Y;have ae:tn<aj.length:=by omega
      have bm:=a6 tn _ (getElem?_eq_getElem ae);have bn:=o.out.froz tn;have a1:=a7 _ (getElem_mem ae) x (by rw [drop_eq_getElem_cons s,Option.some.inj ((getElem?_eq_getElem s).symm.trans l)];exact mem_cons_self ..);have a2:Hid (∀ nq,QbE r B n ev (m+1) ((wr.drewN nq).setCell ⟨B,tn,none⟩ (.int .i64 x.vs))):=Qa λnq=>o.out.next f.out.evp l (by omega) nq;rw [R] at ap a0 K a1 a2;generalize aj[tn]=a8 at *;have aT:decide ((tn:Int)<1)=false:=decide_eq_false (by omega);have aU:decide ((n:Int)<(tn:Int))=false:=decide_eq_false (by omega);have b9:decide (n<tn)=false:=decide_eq_false (by omega);have aV:decide ((C:Int)<a8)=false:=decide_eq_false (by omega);have aN:(m:Int)<(d:Int):=by omega
      have ba:(tn:Int)<(n:Int)+1:=by omega
      have ar:IntKind.i64.wrap ((m:Int)+1)=(m:Int)+1:=by rw [IntKind.wrap_i64];omega
      have bb:C=0:=by have:=G.out;omega
      subst bb;have bc:decide ((0:Int)<a8)=false:=decide_eq_false (by omega);have af:=K rfl;rw [af] at aq;subst a4;clear a5 E J F a6 a7 q Y a0 K a1 l af f U o X R;go_wp2;go_big_quiet (fail);go_wp2;go_roundw;·exact ⟨m+1,by omega,by go_num,Qa (a2.out _)⟩
      simp [intOf];omega
     have ag:m=d:=by omega
     subst ag;go_wp2;go_ret;obtain ⟨b,aA,hb⟩:=av.out;exact ⟨rfl,b,aA,hb.trans (o.out.keep.mono (by rw [V.out];exact hb.size))⟩
  go_loopw [11] (λi wr=>∃ m:Nat,m<=k+1/\i=.int .i64 m/\Hid (Below ai.heap.size ai wr)) (λi _=>k+2-(intOf i).toNat);·exact ⟨0,Nat.zero_le _,rfl,Qa (Below.refl _ _)⟩
  case round =>
   obtain ⟨m,aS,rfl,H⟩:=hrel;by_cases W:m<k+1
   ·have s:m<cm.length:=by rw [G.out];exact W
    have l:=getElem?_eq_getElem s;obtain ⟨bo,a4,aB,E,O⟩:=QfI a9.out W l;cases a4;have bI:=(H.out.cell (p:=⟨g,m*2,none⟩) O).trans aB;have ap:=(H.out.cell (p:=⟨g,m*2+1,none⟩) O).trans E;obtain ⟨aO,aP⟩:=f.out.cms _ (getElem_mem s);have aT:decide (cm[m].2<1)=false:=decide_eq_false (by omega);have aU:decide (cm[m].1<1)=false:=decide_eq_false (by omega);have aN:(m:Int)<((k:Int)+1):=by omega
    have ar:IntKind.i64.wrap ((m:Int)+1)=(m:Int)+1:=by rw [IntKind.wrap_i64];omega
    cases m with
    | zero =>
     generalize cm[0]=x at *;clear aB E T a3 S l aO aP f a9;go_wp2;go_big_quiet (fail);go_wp2;go_roundw;·exact ⟨1,by omega,by go_num,Qa (QL H.out _)⟩
     simp [intOf]
    | succ y =>
     have aE:y<cm.length:=by omega
     obtain ⟨bs,aC,J,_,_⟩:=QfI a9.out (show y<k+1 by omega) (getElem?_eq_getElem aE);cases aC;have aq:=(H.out.cell (p:=⟨g,y*2,none⟩) O).trans J;have aV:decide (cm[y+1].1<=cm[y].1)=false:=decide_eq_false (by have:=pairwise_iff_getElem.1 f.out.rise y (y+1) aE s (by omega);omega);have aY:IntKind.i64.wrap ((y:Int)+1-1)=(y:Int):=by rw [IntKind.wrap_i64];omega
     have bp:decide ((0:Int)<(y:Int)+1)=true:=decide_eq_true (by omega);generalize cm[y+1]=x at *;generalize cm[y]=bN at *;clear aB E J T a3 S l aO aP f a9;go_wp2;go_big_quiet (fail);go_wp2;go_roundw;·exact ⟨y+2,by omega,by go_num,Qa (QL H.out _)⟩
     simp [intOf];omega
   have ag:m=k+1:=by omega
   subst ag;have ab:=Qa (S.out w2 wr aK.out (au.out.trans (H.out.mono au.out.size)));have ac:=Qa (T.out wr ab.out);clear T a3 S;go_wp2_with (first|(go_at_call 10;refine ac.out.mono ?_;rintro e r ⟨v,rfl,L,D⟩;obtain ⟨bi,bj,rfl⟩:=Qz L));have U:=Qa L;have av:Hid (∃ b,A b/\Below b.heap.size b r):=Qa ⟨wr,ab.out,D⟩;have b7:=Qa D;have b8:=D.size;obtain ⟨d,M⟩:∃ d,d=ev.length:=⟨_,rfl⟩;rw [<- M];have aX:d<=1000:=by have:=f.out.few.2;omega
   have aw:=Qa M;have ad:=Qa (QbE.start r n (λe az=>(f.out.evo e az).vs.1));generalize r.alloc (.cells (madeCells #[.int .i64 0] (n+1)) 3)=bk at *;obtain ⟨B,N⟩:∃ B,B=r.heap.size:=⟨_,rfl⟩;rw [<- N] at ad ⊢;have V:=Qa N;have bt:=H.out.size;have aF:Hid (Below ai.heap.size ai r):=Qa (H.out.trans (D.mono H.out.size));have bq:=aF.out.size;clear L D M N ac aI;go_loopw [14] (λi wr=>∃ m:Nat,m<=d/\i=.int .i64 m/\Hid (QbE r B n ev m wr)) (λi _=>d+1-(intOf i).toNat);·exact ⟨0,Nat.zero_le _,rfl,ad⟩
   case round =>
    obtain ⟨m,aS,rfl,o⟩:=hrel;by_cases W:m<d
    ·have s:m<ev.length:=by rw [<- aw.out];exact W
     obtain ⟨x,l⟩:∃ x,ev[m]?=some x:=⟨_,getElem?_eq_getElem s⟩;obtain ⟨I,a4,a5,_,E,J,O⟩:=Qd3 U.out s l;have q:=f.out.evo x (mem_of_getElem? l);have F:=o.out.keep.block I (by rw [V.out];exact O);have q0:=(World.cell?_of_block (a:=⟨I,m*4,none⟩) F).trans a5;have ap:=(World.cell?_of_block (a:=⟨I,m*4+2,none⟩) F).trans E;have aq:=(World.cell?_of_block (a:=⟨I,m*4+3,none⟩) F).trans J;obtain ⟨aj,bl,a6,a7⟩:=o.out.ls;obtain ⟨tn,X⟩:∃ tn:Nat,x.tk=tn:=⟨x.tk.toNat,by have:=q.tk;omega⟩;obtain ⟨C,R⟩:∃ C:Nat,x.vs=C:=⟨x.vs.toNat,by have:=q.vs;omega⟩;have Y:=q.tk;have a0:=q.vs;have K:=q.zero;rw [X] at q0 Y;have ae:tn<aj.length:=by omega
     have bm:=a6 tn _ (getElem?_eq_getElem ae);have bn:=o.out.froz tn;have a1:=a7 _ (getElem_mem ae) x (by rw [drop_eq_getElem_cons s,Option.some.inj ((getElem?_eq_getElem s).symm.trans l)];exact mem_cons_self ..);have a2:Hid (∀ nq,QbE r B n ev (m+1) ((wr.drewN nq).setCell ⟨B,tn,none⟩ (.int .i64 x.vs))):=Qa λnq=>o.out.next f.out.evp l (by omega) nq;rw [R] at ap a0 K a1 a2;generalize aj[tn]=a8 at *;have aT:decide ((tn:Int)<1)=false:=decide_eq_false (by omega);have aU:decide ((n:Int)<(tn:Int))=false:=decide_eq_false (by omega);have b9:decide (n<tn)=false:=decide_eq_false (by omega);have aV:decide ((C:Int)<a8)=false:=decide_eq_false (by omega);have aN:(m:Int)<(d:Int):=by omega
     have ba:(tn:Int)<(n:Int)+1:=by omega
     have ar:IntKind.i64.wrap ((m:Int)+1)=(m:Int)+1:=by rw [IntKind.wrap_i64];omega
     have bp:decide ((k:Int)+1<(C:Int))=false:=decide_eq_false (by have:=G.out;omega);have bu:decide (k+1<C)=false:=decide_eq_false (by have:=G.out;omega);cases C with
     | zero =>
      have bv:decide ((k:Int)+1<0)=false:=decide_eq_false (by omega);have bc:decide ((0:Int)<a8)=false:=decide_eq_false (by omega);have af:=K rfl;rw [af] at aq;subst a4;clear a5 E J F a6 a7 q Y a0 K a1 l af f U o X R;go_wp2;go_big_quiet (fail);go_wp2;go_roundw;·exact ⟨m+1,by omega,by go_num,Qa (a2.out _)⟩
      simp [intOf];omega
     | succ z =>
      have aQ:z<cm.length:=by omega
      obtain ⟨bo,aC,aD,_,bd⟩:=QfI a9.out (show z<k+1 by have:=G.out;omega) (getElem?_eq_getElem aQ);cases aC;have aG:=q.pos z (by rw [R];omega) _ (getElem?_eq_getElem aQ);rw [aG] at aD;have bJ:=(World.cell?_of_block (a:=⟨g,z*2,none⟩) (o.out.keep.block g (by rw [V.out];omega))).trans ((aF.out.cell (p:=⟨g,z*2,none⟩) bd).trans aD);have bw:decide ((z:Int)+1<a8)=false:=decide_eq_false (by omega);have bx:decide (k<z)=false:=decide_eq_false (by have:=G.out;omega);have bz:decide ((k:Int)+1<(z:Int)+1)=false:=decide_eq_false (by have:=G.out;omega);have bK:((z:Int)+1==0)=false:=by simp;omega
      have bL:decide ((0:Int)<(z:Int)+1)=true:=decide_eq_true (by omega);have aY:IntKind.i64.wrap ((z:Int)+1-1)=(z:Int):=by have:=G.out;rw [IntKind.wrap_i64];omega
      have bA:(z:Int)<(k:Int)+1:=by have:=G.out;omega
      generalize x.up=bM at *;subst a4;clear a5 E J F a6 a7 q Y a0 K a1 l f U o X R aD aG;go_wp2;go_big_quiet (fail);go_wp2;go_roundw;·exact ⟨m+1,by omega,by go_num,Qa (a2.out _)⟩
      simp [intOf];omega
    have ag:m=d:=by omega
    subst ag;go_wp2;go_ret;obtain ⟨b,aA,hb⟩:=av.out;exact ⟨rfl,b,aA,hb.trans (o.out.keep.mono (by rw [V.out];exact hb.size))⟩
theorem QA.drop {d l:Qu} {w:World} {u:Nat} {S:Us} (h:QA l w u S) (C:S.T.length<=10) (c:∀ g r,r≠300->l g=some r->d g=some r) (n:∀ b,(d b).isSome=true->(l b).isSome=true):QA d w u S:=by
 have o:∀ b,l b=none->d b=none:=λb e=>by cases f:d b with| none=>rfl| some r=>have:=n b (by rw [f];rfl);rw [e] at this;cases this
 refine ⟨h.c0,h.ta,h.c1,h.c2,h.c3,h.c4,h.c5,h.c6,h.c7,⟨h.cs.set,h.cs.froz,h.cs.lt,c _ _ (by omega) h.cs.role,h.cs.row,λk g v e=>c _ _ (by omega) (h.cs.rrole k g v e),λb e=>h.cs.low b (n b e)⟩,⟨λy=>c _ _ (by omega) (h.ts.role y),h.ts.row,h.ts.froz,λi t s=>?_⟩,⟨h.rl.row,λb e=>c _ _ (by omega) (h.rl.role b e)⟩,⟨h.rb.row,λb e=>c _ _ (by omega) (h.rb.role b e)⟩,⟨h.re.row,λb e=>c _ _ (by omega) (h.re.role b e)⟩,⟨h.rc.row,λb e=>c _ _ (by omega) (h.rc.role b e)⟩,⟨h.dc.dom,λb e=>c _ _ (by omega) (h.dc.role b e)⟩,h.gl,o 0 h.g0,o 1 h.g1⟩;have D:=(List.getElem?_eq_some_iff.1 s).1;have q:=h.ts.each i t s;refine ⟨λj a z=>?_,q.cap,q.big,λx A=>?_⟩
 ·obtain ⟨g,p,m,f,B⟩:=q.acts j a z;exact ⟨g,p,m,c _ _ (by omega) f,B⟩
 obtain ⟨m,f⟩:=q.half x A;exact ⟨c _ _ (by omega) m,f⟩
theorem QA.foreign {c:Qu} {w w':World} {u:Nat} {S:Us} (h:QA c w u S) (n:S.T.length<=10) {b:Nat} (hb:c b=none) (D:2<=b) (C:b<w.heap.size) (o:Qx (λx=>x=b) w w'):QA c w' u S:=by
 generalize i:(λx=>if x=b then some 300 else c x:Qu)=d;have p:∀ g r,c g=some r->d g=some r:=λg r e=>by rw [<- i];show (if g=b then some 300 else c g)=some r;rw [if_neg (λy=>by rw [y,hb] at e;cases e)];exact e
 have z:∀ g r,r≠300->d g=some r->c g=some r:=λg r l e=>by
  rw [<- i] at e;have e:(if g=b then some 300 else c g)=some r:=e;split at e
  ·exact absurd (Option.some.inj e).symm l
  exact e
 have A:d b=some 300:=by rw [<- i];exact if_pos rfl
 have s:∀ x,(d x).isSome=true->x<w.heap.size:=λx e=>by
  by_cases q:x=b
  ·omega
  rw [<- i] at e;have e:(if x=b then some 300 else c x).isSome=true:=e;rw [if_neg q] at e;exact h.cs.low x e
 have t:∀ x,x<2->c x=none->d x=none:=λx E e=>by rw [<- i];show (if x=b then some 300 else c x)=none;rw [if_neg (by omega)];exact e
 have F:=h.gl.two; -- the UI with the block's role
 have a:QA d w u S:=h.kap p s (t 0 (by omega) h.g0) (t 1 (by omega) h.g1);have m:Mv d d (λr=>r=300) w w':=⟨o.mono λx _ e=>⟨300,by rw [e];exact A,rfl⟩,λ_ _=>rfl,λx e=>Nat.lt_of_lt_of_le (s x e) o.size⟩;have v:w'.heap[u]?=w.heap[u]?:=m.block a.lt a.cs.role (by omega);have f:∀ j,w'.cell? ⟨u,j,none⟩=w.cell? ⟨u,j,none⟩:=λj=>World.cell?_of_block v;have B:QA d w' u S:=⟨(f _).trans a.c0,a.ta,(f _).trans a.c1,(f _).trans a.c2,(f _).trans a.c3,(f _).trans a.c4,(f _).trans a.c5,(f _).trans a.c6,(f _).trans a.c7,a.cs.mv m (by intro k _;omega) (λj _ _=>f j) (λj=>World.frozen?_of_block v),a.ts.mv m a.cs.low (by omega) (by intro r _ _;omega) n,a.rl.mv m a.cs.low (by omega),a.rb.mv m a.cs.low (by omega),a.re.mv m a.cs.low (by omega),a.rc.mv m a.cs.low (by omega),a.dc.mv m a.cs.low (by omega),a.gl.mv m a.g0 a.g1,a.g0,a.g1⟩;exact B.drop n z λx e=>by obtain ⟨r,l⟩:=Option.isSome_iff_exists.1 e;rw [p x r l];rfl
structure QaR (w0:World) (B db u sb nb hb:Nat) (κ:Qu) (wr:World) (sn:List Int) (dn:List Nat) (hf:List Bool):Prop where
 c0:wr.cell? ⟨db,0,none⟩=some (.pointer (some ⟨u,0,none⟩))
 sn:∀ (t:Nat) x,sn[t]?=some x->wr.cell? ⟨sb,t,none⟩=some (.int .i64 x)
 dn:∀ (t:Nat) d,dn[t]?=some d->wr.cell? ⟨nb,t,none⟩=some (.int .i64 (d:Nat))
 hf:∀ (t:Nat) x,hf[t]?=some x->wr.cell? ⟨hb,t,none⟩=some (.bool x)
 fs:∀ t,wr.frozen? ⟨sb,t,none⟩=false
 fd:∀ t,wr.frozen? ⟨nb,t,none⟩=false
 fh:∀ t,wr.frozen? ⟨hb,t,none⟩=false
 non:κ db=none/\κ sb=none/\κ nb=none/\κ hb=none
 arg:∀ b,b<B->κ b=none
 lt:B<=db/\db<sb/\sb<nb/\nb<hb/\hb<wr.heap.size
 keep:Below B w0 wr
theorem QaR.out {j:World} {y d u f nb hb:Nat} {g i:Qu} {wr w':World} {k:List Int} {l:List Nat} {m:List Bool} (h:QaR j y d u f nb hb g wr k l m) (a:QB g i wr w'):QaR j y d u f nb hb i w' k l m:=by obtain ⟨z,A,B,C,F⟩:=h.lt;obtain ⟨n,o,p,q⟩:=h.non;have c:∀ b,b<wr.heap.size->g b=none->w'.heap[b]?=wr.heap[b]?:=λb hb e=>a.far.block b hb (by rw [e];simp);have D:=c d (by omega) n;have r:=c f (by omega) o;have s:=c nb (by omega) p;have v:=c hb (by omega) q;have E:=a.far.size;exact ⟨(World.cell?_of_block D).trans h.c0,λt x e=>(World.cell?_of_block r).trans (h.sn t x e),λt x e=>(World.cell?_of_block s).trans (h.dn t x e),λt x e=>(World.cell?_of_block v).trans (h.hf t x e),λt=>(World.frozen?_of_block r).trans (h.fs t),λt=>(World.frozen?_of_block s).trans (h.fd t),λt=>(World.frozen?_of_block v).trans (h.fh t),⟨(a.old _ (by omega)).trans n,(a.old _ (by omega)).trans o,(a.old _ (by omega)).trans p,(a.old _ (by omega)).trans q⟩,λb e=>(a.old b (by omega)).trans (h.arg b e),⟨z,A,B,C,by omega⟩,h.keep.trans ⟨a.far.os,a.far.tape,a.far.output,a.far.size,λb e=>c b (by omega) (h.arg b e)⟩⟩
theorem Qic {α:Type} {f:α->Value} {w:World} {b:Nat} {l:List α} (h:∀ (t:Nat) x,l[t]?=some x->w.cell? ⟨b,t,none⟩=some (f x)) {t:Nat} (d:t<l.length) (x:α):∀ (s:Nat) c,(l.set t x)[s]?=some c->(w.setCell ⟨b,t,none⟩ (f x)).cell? ⟨b,s,none⟩=some (f c):=λs c a=>by
 by_cases q:s=t
 ·subst q;rw [getElem?_set_self d] at a;rw [<- Option.some.inj a];exact World.cell?_setCell_same _ _ _ (h s _ (getElem?_eq_getElem d))
 rw [getElem?_set_ne (λe=>q e.symm)] at a;exact (Z8 _ _ _ _ _ q).trans (h s c a)
theorem Qa5 (w:World) {b a:Nat} (h:a≠b) (t s:Nat) (v:Value):(w.setCell ⟨b,t,none⟩ v).cell? ⟨a,s,none⟩=w.cell? ⟨a,s,none⟩:=World.cell?_setCell_other _ _ _ _ (by intro e;cases e;exact h rfl)
theorem QdK (w:World) (a:Addr) (v:Value):(w.setCell a v).heap.size=w.heap.size:=by simp [World.setCell]
theorem QaR.setS {g:World} {c i u a nb hb:Nat} {j:Qu} {wr:World} {b:List Int} {k:List Nat} {l:List Bool} (h:QaR g c i u a nb hb j wr b k l) {t:Nat} (m:t<b.length) (x:Int):QaR g c i u a nb hb j (wr.setCell ⟨a,t,none⟩ (.int .i64 x)) (b.set t x) k l:=by obtain ⟨n,o,p,q,r⟩:=h.lt;exact ⟨(Qa5 _ (by omega) _ _ _).trans h.c0,Qic (f:=(λx=>Value.int .i64 x)) h.sn m x,λs d e=>(Qa5 _ (by omega) _ _ _).trans (h.dn s d e),λs d e=>(Qa5 _ (by omega) _ _ _).trans (h.hf s d e),λs=>(World.frozen?_setCell ..).trans (h.fs s),λs=>(World.frozen?_setCell ..).trans (h.fd s),λs=>(World.frozen?_setCell ..).trans (h.fh s),h.non,h.arg,⟨n,o,p,q,by rw [QdK];exact r⟩,h.keep.setCell (show c<=a by omega) _⟩
theorem QaR.setD {d:World} {b g u i nb hb:Nat} {j:Qu} {wr:World} {k:List Int} {a:List Nat} {l:List Bool} (h:QaR d b g u i nb hb j wr k a l) {t:Nat} (m:t<a.length) (x:Nat):QaR d b g u i nb hb j (wr.setCell ⟨nb,t,none⟩ (.int .i64 (x:Nat))) k (a.set t x) l:=by obtain ⟨n,o,p,q,r⟩:=h.lt;exact ⟨(Qa5 _ (by omega) _ _ _).trans h.c0,λs c e=>(Qa5 _ (by omega) _ _ _).trans (h.sn s c e),Qic (f:=(λx:Nat=>Value.int .i64 (x:Int))) h.dn m x,λs c e=>(Qa5 _ (by omega) _ _ _).trans (h.hf s c e),λs=>(World.frozen?_setCell ..).trans (h.fs s),λs=>(World.frozen?_setCell ..).trans (h.fd s),λs=>(World.frozen?_setCell ..).trans (h.fh s),h.non,h.arg,⟨n,o,p,q,by rw [QdK];exact r⟩,h.keep.setCell (show b<=nb by omega) _⟩
theorem QaR.setH {d:World} {b g u i nb hb:Nat} {j:Qu} {wr:World} {k:List Int} {l:List Nat} {a:List Bool} (h:QaR d b g u i nb hb j wr k l a) {t:Nat} (m:t<a.length) (x:Bool):QaR d b g u i nb hb j (wr.setCell ⟨hb,t,none⟩ (.bool x)) k l (a.set t x):=by obtain ⟨n,o,p,q,r⟩:=h.lt;exact ⟨(Qa5 _ (by omega) _ _ _).trans h.c0,λs c e=>(Qa5 _ (by omega) _ _ _).trans (h.sn s c e),λs c e=>(Qa5 _ (by omega) _ _ _).trans (h.dn s c e),Qic (f:=(λx=>Value.bool x)) h.hf m x,λs=>(World.frozen?_setCell ..).trans (h.fs s),λs=>(World.frozen?_setCell ..).trans (h.fd s),λs=>(World.frozen?_setCell ..).trans (h.fh s),h.non,h.arg,⟨n,o,p,q,by rw [QdK];exact r⟩,h.keep.setCell (show b<=hb by omega) _⟩
structure JD (w0:World) (B db u sb nb hb:Nat) (A:List (List Ac)) (len i:Nat) (all:Int) (wr:World) (κ:Qu) (S:Us) (sn:List Int) (dn:List Nat) (hf:List Bool):Prop where
 rows:QaR w0 B db u sb nb hb κ wr sn dn hf
 ui:QA κ wr u S
 ok:Zt S
 book:Jw A S sn dn hf
 ph:Ph A.length len i S
 gv:S.gv=all
structure QaJ (w0:World) (B db u sb nb hb:Nat) (A:List (List Ac)) (len i t:Nat) (all:Int) (wr:World) (κ:Qu) (S:Us) (sn:List Int) (dn:List Nat) (hf:List Bool) (qs:List Ac) (d:Nat) (a:Ac) (sent:Int) (half:Bool):Prop where
 rows:QaR w0 B db u sb nb hb κ wr sn dn hf
 ui:QA κ wr u S
 ok:Zt S
 ph:Ph A.length len i S
 l1:sn.length=A.length+1
 l2:dn.length=A.length+1
 l3:hf.length=A.length+1
 t1:1<=t/\t<=A.length
 aq:A[t-1]?=some qs
 ad:dn[t]?=some d
 aa:qs[d]?=some a
 as1:sn[t]?=some sent
 ah:hf[t]?=some half
 next:((a.kd=8 \/ a.kd=9)/\(∃ l e,S.ev=l++[e]/\e.tk=(t:Int)/\e.kd=a.kd/\(a.kd=8->sent<=e.up))/\S.gv=all/\Jw A S sn (dn.set t (d+1)) hf)
  \/ ((a.kd≠8/\a.kd≠9)/\half=false/\S.gv=all+1/\Jw A S (sn.set t (all+1)) dn (hf.set t true))
  \/ ((a.kd≠8/\a.kd≠9)/\half=true/\S.gv=all/\Jw A S sn (dn.set t (d+1)) (hf.set t false))
theorem QtH {r:World} {D c u v nb hb:Nat} {A:List (List Ac)} {o i:Nat} {q:Int} {wr:World} {N:Qu} {S:Us} {y:List Int} {z:List Nat} {B:List Bool} (h:JD r D c u v nb hb A o i q wr N S y z B) {t:Nat} (O:t<=A.length) (P:o<=i->t=i % (A.length+1)) : Calls Tryz.prog 9 #[.pointer (some ⟨c,0,none⟩),.int .i64 t] wr λe w'=>∃ x,e=.returned (.int .i64 x)/\(((t=0 \/ x≠0)/\(x=0 \/ x=7 \/ x=8)/\∃ b S',JD r D c u v nb hb A o (i+1) q w' b S' y z B) \/ (t≠0/\x=0/\∃ b S' C d a sent L,QaJ r D c u v nb hb A o (i+1) t q w' b S' y z B C d a sent L)):=by
 have R:=h.book.n;refine Qh7 c u t wr _ h.rows.c0 (Qa ((Qiy h.ui h.ok t ⟨by omega,by omega⟩).mono ?_));rintro e w' ⟨x,b,S',rfl,a5,H,s⟩;refine ⟨x,rfl,?_⟩;have F:=h.ph.step h.ok R s (by omega) P;have G:=h.ok.step s;have E:=h.rows.out a5;by_cases p:t=0 \/ x≠0
 ·obtain ⟨T,U,V⟩:=QsS h.book s (p.imp (λe=>by omega) id);exact .inl ⟨p,V,b,S',E,H,G,T,F,U.trans h.gv⟩
 have I:x=0:=by
  by_cases e:x=0
  ·exact e
  exact absurd (.inr e) p
 have M:t≠0:=λe=>p (.inl e);obtain ⟨j,rfl⟩:∃ j,t=j+1:=⟨t-1,by omega⟩;obtain ⟨C,d,a,J,W,X,Y,a6,a0,a1,K⟩:=QsR h.book h.ok s (i:=j) (by omega) I;refine .inr ⟨M,I,b,S',C,d,a,J.sent,J.half.isSome,E,H,G,F,h.book.l1,h.book.l2,h.book.l3,⟨by omega,O⟩,W,X,Y,a0,a1,?_⟩;rw [h.gv] at K;rcases K with ⟨f,⟨l,e,g,k,m,a2⟩,a3,a4⟩|⟨f,g,k,m⟩|⟨f,g,k,m⟩
 ·exact .inl ⟨f,⟨l,e,g,by rw [k];omega,m,a2⟩,a3,a4⟩
 ·exact .inr (.inl ⟨f,by rw [g];rfl,k,m⟩)
 exact .inr (.inr ⟨f,g,k,m⟩)
theorem QpN (ao h:Option Addr) (n c i j:Nat) (w:World) (d k:Int) (o:(d==0)=false) (l:Hid (∀ a,Below w.heap.size w a->Calls Tryz.prog 7 #[.slice ao n c] a λe w'=>e=.returned (.tuple #[.pointer none,.int .i64 d,.int .i64 k])/\Below a.heap.size a w')) : Calls Tryz.prog 3 #[.slice ao n c,.slice h i j] w λe w'=>e=.returned (.bool true)/\Below w.heap.size w w':=by have m:=Qa (Qer w);go_enter Tryz.func3,Tryz.ntmps3;go_wp2_with (first|(go_at_call 6;refine m.out.mono ?_;rintro e w1 ⟨rfl,b⟩;have f:=Qa (l.out w1 b))|(go_at_call 7;refine f.out.mono ?_;rintro e w2 ⟨rfl,g⟩));go_ret;exact ⟨rfl,b.trans (g.mono b.size)⟩
def QeI (b:Nat) (w:World) (c:Option Addr) (n:Nat) (a:Nat->Int):Prop:=∀ i,i<n->∃ g p,c=some ⟨g,p,none⟩/\g<b/\w.cell? ⟨g,p+i,none⟩=some (.int .i64 (a i))/\Qg (a i)
theorem QuG:(Tryz.prog.info? 4).map (λi=>(i.zero,i.size,i.bytes))=some (some (.bool false),1,1):=by kernel_rfl
structure Qea (w0:World) (B db u:Nat) (A:List (List Ac)) (wr:World) (κ:Qu) (S:Us):Prop where
 c0:wr.cell? ⟨db,0,none⟩=some (.pointer (some ⟨u,0,none⟩))
 ui:QA κ wr u S
 ok:Zt S
 book:Jw A S (List.replicate (A.length+1) 0) (List.replicate (A.length+1) 0) (List.replicate (A.length+1) false)
 few:S.M<=192
 gv:S.gv=0
 non:κ db=none
 arg:∀ b,b<B->κ b=none
 lt:B<=db/\db<wr.heap.size
 keep:Below B w0 wr
theorem QiE {w:World} {e:TypeId} {v:Value} {n:Nat} {l:List Value} (b:(madeCells #[v] n).toList=l) (t:Nat) (x:Value) (c:l[t]?=some x):(w.alloc (.cells (madeCells #[v] n) e)).cell? ⟨w.heap.size,t,none⟩=some x:=by have a:(w.alloc (.cells (madeCells #[v] n) e)).heap[w.heap.size]?=some (.cells (madeCells #[v] n) e (0,0)):=heap_alloc_new w _;refine Qf a t x ?_;rw [<- Array.getElem?_toList,b];exact c
theorem QhA {w:World} {e:TypeId} {v:Value} {n:Nat} (t:Nat):(w.alloc (.cells (madeCells #[v] n) e)).frozen? ⟨w.heap.size,t,none⟩=false:=by have a:(w.alloc (.cells (madeCells #[v] n) e)).heap[w.heap.size]?=some (.cells (madeCells #[v] n) e (0,0)):=heap_alloc_new w _;exact Jp a t
theorem QhY (v:Value) (n:Nat):(madeCells #[v] n).toList=List.replicate n v:=by
 unfold madeCells;apply ext_getElem
 ·simp
 intro i a b;simp [Nat.mod_one]
theorem Qea.start {y:World} {C q u:Nat} {A:List (List Ac)} {wr:World} {g:Qu} {S:Us} (h:Qea y C q u A wr g S) (D:Nat):JD y C q u wr.heap.size (wr.heap.size+1) (wr.heap.size+2) A D 0 0 (((wr.alloc (.cells (madeCells #[.int .i64 0] (A.length+1)) 3)).alloc (.cells (madeCells #[.int .i64 0] (A.length+1)) 3)).alloc (.cells (madeCells #[.bool false] (A.length+1)) 4)) g S (List.replicate (A.length+1) 0) (List.replicate (A.length+1) 0) (List.replicate (A.length+1) false):=by
 have J:=h.ok.n4;have K:=h.book.n;generalize i:wr.alloc (.cells (madeCells #[.int .i64 0] (A.length+1)) 3)=w1;have z:w1.heap.size=wr.heap.size+1:=by rw [<- i];simp
 have E:Below wr.heap.size wr w1:=by rw [<- i];exact (Below.refl _ _).alloc (Nat.le_refl _) _
 generalize j:w1.alloc (.cells (madeCells #[.int .i64 0] (A.length+1)) 3)=w2;have B:w2.heap.size=wr.heap.size+2:=by rw [<- j];simp;omega
 have s:Below w1.heap.size w1 w2:=by rw [<- j];exact (Below.refl _ _).alloc (Nat.le_refl _) _
 generalize k:w2.alloc (.cells (madeCells #[.bool false] (A.length+1)) 4)=a;have L:a.heap.size=wr.heap.size+3:=by rw [<- k];simp;omega
 have d:Below w2.heap.size w2 a:=by rw [<- k];exact (Below.refl _ _).alloc (Nat.le_refl _) _
 have b:Below wr.heap.size wr a:=E.trans ((s.mono (by omega)).trans (d.mono (by omega)));have m:∀ x,wr.heap.size<=x->g x=none:=λx c=>by cases e:g x with| none=>rfl| some r=>have:=h.ui.cs.low x (by rw [e];rfl);omega
 have F:∀ t,a.cell? ⟨wr.heap.size,t,none⟩=w1.cell? ⟨wr.heap.size,t,none⟩:=λt=>((d.cell (p:=⟨wr.heap.size,t,none⟩) (by show wr.heap.size<_;omega)).trans (s.cell (p:=⟨wr.heap.size,t,none⟩) (by show wr.heap.size<_;omega)));have G:∀ t,a.frozen? ⟨wr.heap.size,t,none⟩=w1.frozen? ⟨wr.heap.size,t,none⟩:=λt=>((d.frozen (p:=⟨wr.heap.size,t,none⟩) (by show wr.heap.size<_;omega)).trans (s.frozen (p:=⟨wr.heap.size,t,none⟩) (by show wr.heap.size<_;omega)));have H:∀ t,a.cell? ⟨wr.heap.size+1,t,none⟩=w2.cell? ⟨wr.heap.size+1,t,none⟩:=λt=>d.cell (p:=⟨wr.heap.size+1,t,none⟩) (by show wr.heap.size+1<_;omega);have I:∀ t,a.frozen? ⟨wr.heap.size+1,t,none⟩=w2.frozen? ⟨wr.heap.size+1,t,none⟩:=λt=>d.frozen (p:=⟨wr.heap.size+1,t,none⟩) (by show wr.heap.size+1<_;omega);have o:∀ {α:Type} (f:α->Value) (x:α) (t:Nat) (v:α),(List.replicate (A.length+1) x)[t]?=some v->(List.replicate (A.length+1) (f x))[t]?=some (f v):=λf x t v l=>by
  rw [List.getElem?_replicate] at l ⊢;split at l
  ·rw [if_pos (by assumption)];cases l;rfl
  cases l
 refine ⟨⟨(b.cell (p:=⟨q,0,none⟩) h.lt.2).trans h.c0,λt x c=>?_,λt x c=>?_,λt x c=>?_,λt=>(G t).trans (by rw [<- i];exact QhA t),λt=>(I t).trans (by rw [<- j,<- z];exact QhA t),λt=>by rw [<- k,<- B];exact QhA t,⟨h.non,m _ (by omega),m _ (by omega),m _ (by omega)⟩,h.arg,⟨h.lt.1,h.lt.2,by omega,by omega,by omega⟩,h.keep.trans (b.mono (by have:=h.lt;omega))⟩,h.ui.below (by omega) b,h.ok,h.book,Ph.start h.few (Nat.zero_le _) (by omega),h.gv⟩
 ·rw [F,<- i];exact QiE (QhY _ _) t _ (o (λx:Int=>Value.int .i64 x) 0 t x c)
 ·rw [H,<- j,<- z];exact QiE (QhY _ _) t _ (o (λx:Nat=>Value.int .i64 (x:Int)) 0 t x c)
 rw [<- k,<- B];exact QiE (QhY _ _) t _ (o (λx:Bool=>Value.bool x) false t x c)
end Go.Proofs.YtobgcaemnpkbmaaGreatDoor
