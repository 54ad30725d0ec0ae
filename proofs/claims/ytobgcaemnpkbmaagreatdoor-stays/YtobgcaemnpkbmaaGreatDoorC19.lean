import Derived.Test.YtobgcaemnpkbmaaGreatDoorC18
import Derived.Shelf.RegionOpenPlain
import Derived.ScopeJumps
import Derived.WalkMore
namespace Go.Proofs.YtobgcaemnpkbmaaGreatDoor
set_option maxRecDepth 100000
set_option maxHeartbeats 8000000
open Go.RowKit List
def Ze (x:Int):Bool:=!JQ x
theorem Qrk {l:List Int} (h:QaY JQ l=-1):l.filter Ze=l:=by rw [filter_eq_self];intro x b;unfold QaY at h;cases a:l.findIdx? JQ with| some k=>rw [a] at h;simp at h| none =>rw [findIdx?_eq_none_iff] at a;unfold Ze;rw [a x b];rfl
theorem Qo6 (l:List Int):QaY JQ l=-1 \/ ∃ k,∃ a:k<l.length,QaY JQ l=(k:Int)/\JQ l[k]=true/\∀ j,(d:j<l.length)->j<k->JQ l[j]=false:=by unfold QaY;cases b:l.findIdx? JQ with| none=>exact .inl rfl| some k =>rw [findIdx?_eq_some_iff_getElem] at b;obtain ⟨a,e,c⟩:=b;exact .inr ⟨k,a,rfl,e,λj d h=>by simpa using c j h⟩
theorem Qsk {l:List Int} {k:Nat} (c:k<l.length) (d:JQ l[k]=true) (b:∀ j,(a:j<l.length)->j<k->JQ l[j]=false):(l.take (k+1)).filter Ze=l.take k:=by
 rw [take_succ_eq_append_getElem c,filter_append];have f:(l.take k).filter Ze=l.take k:=by rw [filter_eq_self];intro x g;obtain ⟨j,a,rfl⟩:=getElem_of_mem g;rw [length_take] at a;rw [getElem_take];unfold Ze;rw [b j (by omega) (by omega)];rfl
 rw [f];simp [Ze,d]
theorem QtA (l:List Int) (k:Nat):(Qt l).take k=Qt (l.take k):=by unfold Qt;rw [map_take]
theorem QjV (l:List Int) (k:Nat):(Qt l).drop k=Qt (l.drop k):=by unfold Qt;rw [map_drop]
theorem Qt9 (f:Nat) (ao:Option Addr) (n c:Nat) (l:List Int) (w:World) (h:w.ownsRow f 3 1 (.slice ao n c) n (Qt l)) (C:n<=1000000) : Xl 136 #[.slice ao n c,.func (.func 138) #[] #[]] w λe w'=>∃ q,e=.returned q/\w'.ownsRow f 3 1 q (l.filter Ze).length (Qt (l.filter Ze))/\Qx (λb=>f<=b) w w':=by
 have x:=Qa (QoF f ao n c l w h C);have a0:l.length=n:=by have:=h.1;rw [Qap] at this;omega
 rcases Qo6 l with s|⟨k,a1,s,O,P⟩
 ·have I:=Qa (Qrk s);have a7:=Qa h;rw [s] at x;clear h s;go_enter Tryz.func136,Tryz.ntmps136;go_wp2_with (first|(go_at_call 173;refine (Qb x).mono ?_;rintro e w1 ⟨rfl,rfl⟩));go_ret;refine ⟨_,rfl,?_,Qx.of_below (Below.refl _ _)⟩;rw [I.out,a0];exact a7.out
 rw [s] at x;have F:=Qa (Qsk a1 O P);have a2:0<n:=by omega
 obtain ⟨g,_,U,_,V,a8⟩:=QdD h a2;subst U;have S:Hid (∃ xs,w.ownsRow f 3 1 (Xe g n c) n xs/\xs.take k=Qt ((l.take (k+1)).filter Ze)/\xs.drop (k+1)=Qt (l.drop (k+1))/\((l.take (k+1)).filter Ze).length=k):=Qa ⟨Qt l,h,by rw [F.out,QtA],QjV _ _,by rw [F.out,length_take];omega⟩;clear h s F O P;go_enter Tryz.func136,Tryz.ntmps136;go_wp2_with (first|(go_at_call 173;refine (Qb x).mono ?_;rintro e w ⟨rfl,rfl⟩));go_loopw [5,6,7] (λa3 J _ wr=>∃ i j:Nat,i<j/\j<=n/\a3=Xi i/\J=Xi j/\Hid (∃ xs,wr.ownsRow f 3 1 (Xe g n c) n xs/\xs.take i=Qt ((l.take j).filter Ze)/\xs.drop j=Qt (l.drop j)/\((l.take j).filter Ze).length=i)/\Hid (Qx (λb=>f<=b) w wr)) (λ_ J _ _=>n-(intOf J).toNat);·exact ⟨k,k+1,by omega,by omega,rfl,by go_num,S,Qa (Qx.of_below (Below.refl _ _))⟩
 case round =>
  obtain ⟨i,j,a9,aa,rfl,rfl,A,E⟩:=hrel;clear S x;obtain ⟨xs,a,p,v,o⟩:=A.out;have G:xs.length=n:=by have:=a.1;omega
  have a4:∀ N,Xf wr g N:=λN=>a.frozenAt N;by_cases ab:j<n
  ·have H:j<l.length:=by omega
   have aj:wr.cell? (Xa g j)=some (Xi l[j]):=by rw [a.cellAt j (by omega)];have d:=congrArg (λz=>z[0]?) v;simp only [getElem?_drop,Nat.add_zero] at d;rw [d];unfold Qt;rw [getElem?_map,getElem?_drop,Nat.add_zero,getElem?_eq_getElem H];rfl
   have T:∃ u,wr.cell? (Xa g i)=some u:=⟨xs[i]'(by omega),by rw [a.cellAt i (by omega),getElem?_eq_getElem]⟩;obtain ⟨u,T⟩:=T;have W:(j:Int)<(n:Int):=by omega
   have ac:(i:Int)<(n:Int):=by omega
   have D:=Qa (Qgx l[j] wr);have B:xs.drop (j+1)=Qt (l.drop (j+1)):=by have:=congrArg (List.drop 1) v;rw [drop_drop,QjV,drop_drop] at this;exact this
   by_cases e:JQ l[j]=true
   ·have e':(l[j]==-1)=true:=e;have K:Hid (∃ xs,wr.ownsRow f 3 1 (Xe g n c) n xs/\xs.take i=Qt ((l.take (j+1)).filter Ze)/\xs.drop (j+1)=Qt (l.drop (j+1))/\((l.take (j+1)).filter Ze).length=i):=by
     have y:(l.take (j+1)).filter Ze=(l.take j).filter Ze:=by rw [take_succ_eq_append_getElem H,filter_append];simp [Ze,e]
     exact Qa ⟨xs,a,by rw [y];exact p,B,by rw [y];exact o⟩
    rw [e'] at D;clear a p v o G B A;go_wp2_with (first|(go_at_call 138;refine (Qb D).mono ?_;rintro e w1 ⟨rfl,rfl⟩));go_roundw;·exact ⟨_,_,_,_,_,_,_,_,_,_,_,_,_,_,_,_,_,_,_,_,_,_,_,⟨i,j+1,by omega,by omega,rfl,by go_num,K,E⟩,rfl⟩
    simp [intOf];omega
   have e:JQ l[j]=false:=by simpa using e
   have e':(l[j]==-1)=false:=e;have K:Hid (∃ xs,(wr.setCell (Xa g i) (Xi l[j])).ownsRow f 3 1 (Xe g n c) n xs/\xs.take (i+1)=Qt ((l.take (j+1)).filter Ze)/\xs.drop (j+1)=Qt (l.drop (j+1))/\((l.take (j+1)).filter Ze).length=i+1):=by
    have y:(l.take (j+1)).filter Ze=(l.take j).filter Ze++[l[j]]:=by rw [take_succ_eq_append_getElem H,filter_append];simp [Ze,e]
    refine Qa ⟨xs.set i (Xi l[j]),(a.stored i _).1,?_,?_,?_⟩
    ·rw [y,QeQ,<- p,take_set,take_succ_eq_append_getElem (by omega),set_append_right _ _ (by rw [length_take];omega)];simp [length_take,Nat.min_eq_left (show i<=xs.length by omega)]
    ·rw [drop_set,if_pos (by omega)];exact B
    rw [y,length_append,o];rfl
   have L:Hid (Qx (λb=>f<=b) w (wr.setCell (Xa g i) (Xi l[j]))):=Qa (E.out.set (.inl V) _);rw [e'] at D;clear a p v o G B A;go_wp2_with (first|(go_at_call 138;refine (Qb D).mono ?_;rintro e w1 ⟨rfl,rfl⟩));go_roundw;·exact ⟨_,_,_,_,_,_,_,_,_,_,_,_,_,_,_,_,_,_,_,_,_,_,_,⟨i+1,j+1,by omega,by omega,by go_num,by go_num,K,L⟩,rfl⟩
   simp [intOf];omega
  have X:j=n:=by omega
  subst X;have W:¬ (j:Int)<(j:Int):=by omega
  have ad:∀ M,(Builtin.clear_ #[23] M #[.slice (some (Xa g i)) (j-i) (c-i)]).run Tryz.prog wr=.ok (.tuple #[]) (wr.setCells g i (List.replicate (j-i) (Xi 0))):=λM => Lib.run_clear_slice wr _ _ M _ Tryz.underlying23 (λw=>Tryz.zeroValue3 w) rfl rfl g i _ _ (by omega) (λt r=>by rw [a.cellAt (i+t) (by omega),getElem?_eq_getElem (by omega)];rfl) (λt _=>a4 _);obtain ⟨ae,_,_,af,ag⟩:=Qcp a;have I:Hid ((wr.setCells g i (List.replicate (j-i) (Xi 0))).ownsRow f 3 1 (Xe g i c) i (Qt (l.filter Ze))):=by
   have d:=Qif (J9 (List.replicate (j-i) (Value.int .i64 0)) i a) (m:=i) (by omega);rw [Qa7 _ _ _ (by rw [length_replicate];omega)] at d;have a5:l.take j=l:=take_of_length_le (by omega);rw [a5] at p;have a6:(xs.take i++List.replicate (j-i) (Value.int .i64 0)++xs.drop (i+(List.replicate (j-i) (Value.int .i64 0)).length)).take (i*1)=Qt (l.filter Ze):=by rw [append_assoc,take_append_of_le_length (by rw [length_take];omega),Nat.mul_one,take_take,Nat.min_self,p]
   rw [a6] at d;exact Qa d
  have R:(l.filter Ze).length=i:=by rw [take_of_length_le (by omega)] at o;exact o
  have Y:=Qa R;have L:Hid (Qx (λb=>f<=b) w (wr.setCells g i (List.replicate (j-i) (Xi 0)))):=by obtain ⟨d,ak⟩:=Jj g (List.replicate (j-i) (Value.int .i64 0)) i wr;have r:=E.out;exact Qa ⟨d.os.trans r.os,d.tape.trans r.tape,d.output.trans r.output,Nat.le_trans r.size d.size,λb hb C=>(d.block b (Nat.lt_of_lt_of_le hb r.size) (λe=>C (by have:=Option.some.inj e;omega))).trans (r.block b hb C)⟩
  have ah:(i:Int)<=(j:Int):=by omega
  have ai:i<=j:=by omega
  clear a p v o G A R;go_wp2;go_ret;exact ⟨_,rfl,by rw [Y.out];exact I.out,L.out⟩
theorem Quz (J:Nat) (ao:Option Addr) (n c:Nat) (l:List Int) (w:World) (h:w.ownsRow J 3 1 (.slice ao n c) n (Qt l)) (M:n<=1000000) : Xl 137 #[.slice ao n c] w λe w'=>∃ q,e=.returned q/\w'.ownsRow w.heap.size 3 1 q n (Qt l)/\Xb w w':=by
 obtain ⟨B,C,r,s,t⟩:=info_parts Qds;have K:∀ w a l c,(binOp .eql 23 (.slice a l c) Xv).run Tryz.prog w=.ok (.bool a.isNone) w:=λw a l c => Lib.run_eql_slice_nil (P:=Tryz.prog) w 23 3 a l c 0 0 Tryz.underlying23;have D:l.length=n:=by have:=h.1;rw [Qap] at this;omega
 cases ao with
 | none =>
  have E:n=0:=by
   rcases h.2 with ⟨_,e⟩|⟨g,cap,L,e,_⟩
   ·exact e
   simp at e
  subst E;have v:l=[]:=eq_nil_of_length_eq_zero D;subst v;clear h;go_enter Tryz.func137,Tryz.ntmps137;go_wp2;go_ret;exact ⟨_,rfl,World.ownsRow_nil _ _ _ _,Below.refl _ _⟩
 | some m =>
  have R:=Qa h;have k:∀ a,some m=some a->∀ j u,(Qt l)[j]?=some u->∀ i,(w.alloc i).cell? (a.add j)=some u:=λa f j u d i=>by
   cases f;have F:j<n:=by have:=(List.getElem?_eq_some_iff.1 d).1;rw [Qap] at this;omega
   obtain ⟨g,y,e,G,_,H⟩:=QdD h F;cases e;rw [QdW,World.cell?_alloc_lt w i (Xa g (0+j)) H,Nat.zero_add,G];unfold Qt at d;rw [getElem?_map,getElem?_eq_getElem y] at d;exact d
  have I:=Qa k;clear h k;go_enter Tryz.func137,Tryz.ntmps137;have o:Hid ((w.alloc (.cells #[] 3)).ownsRow w.heap.size 3 1 (Xe w.heap.size 0 0) 0 []):=Qa (by refine ⟨rfl,.inr ⟨w.heap.size,0,#[],rfl,Nat.le_refl _,?_,Nat.le_refl _,by unfold maxLen;omega,rfl,rfl⟩⟩;show (w.heap.push _)[w.heap.size]?=_;simp);go_wp2_with ((at_builtin;refine Jf _ rfl (.tmp 5) (.tmp 6) 23 rfl w.heap.size 3 B (Xi 0) 1 8 Tryz.underlying23 C r s t rfl (Xe w.heap.size 0 0) 0 [] rfl o.out (some m) n c (Qt l) rfl (by simp) (by rw [Qap];omega) (λa f j u d=>I.out a f j u d _) (λu d=>by unfold Qt at d;obtain ⟨x,_,rfl⟩:=mem_map.1 d;rfl) (by omega) (by omega) (by simp) ?_;intro N O z A _));go_ret;have hb:=((Below.refl w.heap.size w).alloc (Nat.le_refl _) (.cells #[] 3)).grown A.out.by (by simp) (λb e=>(o.out.lt b e).1);have p:=z.out;rw [Nat.zero_add,nil_append] at p;exact ⟨_,rfl,p,hb⟩
def Qbx (l:List Int) (t:Nat):List Int:=(List.range l.length).map λp=>if p<t \/ l.length-t<=p then l.getD (l.length-1-p) 0 else l.getD p 0
theorem Qdb (l:List Int) (t:Nat):(Qbx l t).length=l.length:=by unfold Qbx;simp
theorem Qeq (l:List Int) (t p:Nat) (a:p<l.length):(Qbx l t)[p]'(by rw [Qdb];exact a)=if p<t \/ l.length-t<=p then l.getD (l.length-1-p) 0 else l.getD p 0:=by unfold Qbx;rw [getElem_map,getElem_range]
theorem Qp8 (l:List Int):Qbx l 0=l:=by apply ext_getElem (Qdb l 0);intro p b a;rw [Qeq l 0 p a,if_neg (by omega),Xg a];rfl
theorem Qu2 (l:List Int) (t:Nat) (f:l.length<=2*t+1) (d:2*t<=l.length):Qbx l t=l.reverse:=by
 apply ext_getElem (by rw [Qdb,length_reverse]);intro p c g;have a:p<l.length:=by rwa [Qdb] at c
 rw [Qeq l t p a,getElem_reverse];have e:∀ q,(b:q<l.length)->l.getD q 0=l[q]:=λq b=>by rw [Xg b];rfl
 split
 ·rw [e _ (by omega)]
 rw [e _ a];congr 1
 omega
theorem Qqi (l:List Int) (t:Nat) (g:t<l.length-1-t):((Qbx l t).set t (l.getD (l.length-1-t) 0)).set (l.length-1-t) (l.getD t 0)=Qbx l (t+1):=by
 apply ext_getElem (by simp [Qdb]);intro p h f;have a:p<l.length:=by rwa [Qdb] at f
 rw [Qeq l (t+1) p a,getElem_set,getElem_set];by_cases b:l.length-1-t=p
 ·rw [if_pos b,if_pos (by omega)];congr 1
  omega
 rw [if_neg b];by_cases c:t=p
 ·rw [if_pos c,if_pos (by omega)];congr 1
  omega
 rw [if_neg c,Qeq l t p a];by_cases d:p<t \/ l.length-t<=p
 ·rw [if_pos d,if_pos (by omega)]
 rw [if_neg d,if_neg (by omega)]
theorem Qmq (l:List Int) (t p:Nat) (a:t<=p) (b:p<l.length-t):(Qt (Qbx l t))[p]?=some (Xi (l.getD p 0)):=by unfold Qt;rw [getElem?_map,getElem?_eq_getElem (by rw [Qdb];omega),Qeq l t p (by omega),if_neg (by omega)];rfl
theorem QfZ (l:List Int) (k:Nat) (x:Int):(Qt l).set k (Xi x)=Qt (l.set k x):=by unfold Qt;rw [map_set]
theorem Qpe (d:Nat) (ao:Option Addr) (n c:Nat) (l:List Int) (w:World) (h:w.ownsRow d 3 1 (.slice ao n c) n (Qt l)) (G:n<=1000000) : Xl 172 #[.slice ao n c] w λe w'=>e=.returned (.tuple #[])/\w'.ownsRow d 3 1 (.slice ao n c) n (Qt l.reverse)/\Qx (λb=>d<=b) w w':=by
 have s:l.length=n:=by have:=h.1;rw [Qap] at this;omega
 have p:Hid (w.ownsRow d 3 1 (.slice ao n c) n (Qt (Qbx l 0))):=Qa (by rw [Qp8];exact h);clear h;go_enter Tryz.func172,Tryz.ntmps172;go_wp2;go_loopw [2,3] (λj u wr=>∃ t:Nat,2*t<=n/\j=Xi t/\u=Xi ((n:Int)-1-t)/\Hid (wr.ownsRow d 3 1 (.slice ao n c) n (Qt (Qbx l t)))/\Hid (Qx (λb=>d<=b) w wr)) (λj _ _=>n-(intOf j).toNat);·exact ⟨0,by omega,rfl,by go_num,p,Qa (Qx.of_below (Below.refl _ _))⟩
 case round =>
  obtain ⟨t,C,rfl,rfl,i,m⟩:=hrel;clear p;by_cases r:(t:Int)<(n:Int)-1-t
  ·have a:=i.out;obtain ⟨g,cap,e⟩:∃ g cap,Value.slice ao n c=Xe g n cap:=by
    rcases a.2 with ⟨_,e⟩|⟨g,cap,D,e,_⟩
    ·omega
    exact ⟨g,cap,e⟩
   simp at e;obtain ⟨rfl,rfl⟩:=e;have o:=(a.lt g rfl);have H:Xc wr g t (Xi (l.getD t 0)):=(a.cellAt t (by omega)).trans (Qmq l t t (by omega) (by omega));have I:Xc wr g (n-1-t) (Xi (l.getD (n-1-t) 0)):=(a.cellAt (n-1-t) (by omega)).trans (Qmq l t (n-1-t) (by omega) (by omega));have J:=a.frozenAt t;have K:=a.frozenAt (n-1-t);have v:(n:Int)-1-t=((n-1-t:Nat):Int):=by omega
   rw [v] at r ⊢;have y:Hid (∀ w2:World,w2.heap=((wr.setCell (Xa g t) (Xi (l.getD (n-1-t) 0))).setCell (Xa g (n-1-t)) (Xi (l.getD t 0))).heap->w2.ownsRow d 3 1 (Xe g n c) n (Qt (Qbx l (t+1)))):=Qa λw2 z=>by have k:=((a.stored t (Xi (l.getD (n-1-t) 0))).1.stored (n-1-t) (Xi (l.getD t 0))).1;rw [QfZ,QfZ] at k;subst s;rw [Qqi l t (by omega)] at k;exact QT k λb _=>by rw [z]
   have f:Hid (Qx (λb=>d<=b) w ((wr.setCell (Xa g t) (Xi (l.getD (n-1-t) 0))).setCell (Xa g (n-1-t)) (Xi (l.getD t 0)))):=Qa ((m.out.set (.inl o.1) _).set (.inl o.1) _);clear a i;have B:Tryz.prog.follows .mixedOrders=true:=by kernel_rfl
   have E:t<n:=by omega
   have F:n-1-t<n:=by omega
   generalize L:n-1-t=q at *;generalize l.getD t 0=x at *;generalize l.getD q 0=M at *;go_wp2_with fail;go_region_o;go_wp2;go_roundw
   ·refine ⟨t+1,by omega,by go_num,?_,Qa (y.out _ rfl),Qa ⟨f.out.os,f.out.tape,f.out.output,f.out.size,f.out.block⟩⟩;congr 1
    omega
   simp [intOf];omega
  have A:=Qa (Qu2 l t (by omega) (by omega));go_wp2;refine bodyPost_end (results_none rfl _ _ _) rfl ?_;exact ⟨rfl,by rw [<- A.out];exact i.out,m.out⟩
def JF (c:List Nat):Nat:=c.headD 0
def Zy (v:Nat->Int) (C:List (List Nat)) (i:Nat):Nat:=(C.takeWhile λc=>decide (v (JF c)<v i)).length
def Qa3 (C:List (List Nat)) (p i:Nat):List Nat:=i::(if p=0 then [] else C.getD (p-1) [])
def Qbc (v:Nat->Int) (C:List (List Nat)) (i:Nat):List (List Nat) :=
 if Zy v C i<C.length then C.set (Zy v C i) (Qa3 C (Zy v C i) i) else C++[Qa3 C (Zy v C i) i]
def Qr (v:Nat->Int):Nat->List (List Nat)
 | 0=>[]
 | i+1=>Qbc v (Qr v i) i
def Qcv (v:Nat->Int) (n:Nat):List Int:=(((Qr v n).getLastD []).map v).reverse
theorem QkD (v:Nat->Int) (C:List (List Nat)) (i:Nat):Zy v C i<=C.length:=by unfold Zy;exact takeWhile_prefix _ |>.length_le
theorem QmM {v:Nat->Int} {C:List (List Nat)} {i p:Nat} (b:p<=C.length) (d:∀ q,(f:q<C.length)->q<p->v (JF C[q])<v i) (c:(b:p<C.length)->¬ v (JF C[p])<v i):Zy v C i=p:=by
 unfold Zy;induction C generalizing p with
 | nil=>simp at b;subst b;rfl
 | cons a C ih =>
  cases p with
  | zero =>have:=c (by simp);rw [takeWhile_cons,if_neg (by simpa using this)];rfl
  | succ p =>
   have g:=d 0 (by simp) (by omega);rw [takeWhile_cons,if_pos (by simpa using g),length_cons,ih (p:=p) (by simpa using b) (λq f h=>?_) (λh=>?_)]
   ·exact d (q+1) (by simpa using f) (by omega)
   exact c (by simpa using h)
def Qc9 (a:Nat->Int):List Nat->Prop
 | []=>True
 | x::r=>a x=(match r with|[]=>-1|b::_=>(b:Int))/\Qc9 a r
theorem QiO {b a:Nat->Int}:∀ {c:List Nat},(∀ x,x ∈ c->a x=b x)->Qc9 b c->Qc9 a c:=by
 intro c;induction c with
 | nil=>intro _ _;trivial
 | cons x r ih=>intro h hb;exact ⟨(h x (by simp)).trans hb.1,ih (λf d=>h f (by simp [d])) hb.2⟩
structure Qdy (ah:Nat->Int) (C:List (List Nat)) (i:Nat):Prop where
 ne:∀ c,c ∈ C->c≠[]
 lt:∀ c,c ∈ C->∀ x,x ∈ c->x<i
 back:∀ c,c ∈ C->Qc9 ah c
 dec:∀ c,c ∈ C->c.Pairwise λx y=>y<x
 few:C.length<=i
theorem Qdy.zero (a:Nat->Int):Qdy a [] 0:=⟨λ_ h=>by simp at h,λ_ h=>by simp at h,λ_ h=>by simp at h,λ_ h=>by simp at h,Nat.le_refl _⟩
def QbJ (C:List (List Nat)) (p:Nat):Int:=if p=0 then -1 else (JF (C.getD (p-1) []):Int)
theorem Qmt {C:List (List Nat)} {p i:Nat} {x:Nat} (h:x ∈ Qa3 C p i):x=i \/ ∃ c,c ∈ C/\x ∈ c:=by
 unfold Qa3 at h;rcases mem_cons.1 h with h|h
 ·exact .inl h
 right;split at h
 ·simp at h
 rw [getD_eq_getElem?_getD] at h;cases a:C[p-1]? with| none=>rw [a] at h;simp at h| some c=>rw [a] at h;exact ⟨c,mem_of_getElem? a,h⟩
theorem Qdy.step {n l:Nat->Int} {v:Nat->Int} {C:List (List Nat)} {i:Nat} (h:Qdy n C i) (m:∀ x,x<i->l x=n x) (d:l i=QbJ C (Zy v C i)):Qdy l (Qbc v C i) (i+1):=by
 have z:=QkD v C i;have k:∀ c,c ∈ Qbc v C i->c ∈ C \/ c=Qa3 C (Zy v C i) i:=λc a=>by
  unfold Qbc at a;split at a
  ·rcases mem_or_eq_of_mem_set a with e|e
   ·exact .inl e
   exact .inr e
  rcases mem_append.1 a with e|e
  ·exact .inl e
  exact .inr (mem_singleton.1 e)
 refine ⟨λc a=>?_,λc a x b=>?_,λc a=>?_,λc a=>?_,?_⟩
 ·rcases k c a with e|e
  ·exact h.ne c e
  rw [e];unfold Qa3;simp
 ·rcases k c a with e|e
  ·have:=h.lt c e x b;omega
  rw [e] at b;rcases Qmt b with A|⟨q,s,t⟩
  ·omega
  have:=h.lt q s x t;omega
 ·rcases k c a with e|e
  ·exact QiO (λx b=>m x (h.lt c e x b)) (h.back c e)
  rw [e];unfold Qa3 QbJ at *;by_cases g:Zy v C i=0
  ·rw [if_pos g] at d ⊢;exact ⟨d,trivial⟩
  rw [if_neg g] at d ⊢;have j:Zy v C i-1<C.length:=by omega
  rw [Xg j] at d ⊢;have f:C[Zy v C i-1] ∈ C:=getElem_mem j;have u:=h.ne _ f;simp only [Option.getD_some] at d ⊢;cases b:C[Zy v C i-1] with| nil=>exact absurd b u| cons o r =>rw [b] at d f;exact ⟨d,QiO (λx p=>m x (h.lt _ f x p)) (h.back _ f)⟩
 ·rcases k c a with e|e
  ·exact h.dec c e
  rw [e];unfold Qa3;by_cases g:Zy v C i=0
  ·rw [if_pos g];simp
  have j:Zy v C i-1<C.length:=by omega
  have f:C[Zy v C i-1] ∈ C:=getElem_mem j;rw [if_neg g,Xg j];exact pairwise_cons.2 ⟨λo y=>h.lt _ f o y,h.dec _ f⟩
 unfold Qbc;have:=h.few;split
 ·rw [length_set];omega
 rw [length_append];simp;omega
theorem Qrs:∀ {c:List Nat} {i:Nat},(c.Pairwise λx f=>f<x)->(∀ x,x ∈ c->x<i)->c.length<=i:=by
 intro c;induction c with
 | nil=>intro i _ _;exact Nat.zero_le _
 | cons x r ih =>intro i d b;have a:=pairwise_cons.1 d;have g:=ih a.2 a.1;have h:=b x (by simp);rw [length_cons];omega
def QbI (a:List Nat) (k:Nat):Int:=if h:k<a.length then (a[k]:Int) else -1
theorem QhE {a:List Nat} {k:Nat} (h:k<a.length):QbI a k=(a[k]:Int):=by unfold QbI;rw [dif_pos h]
theorem Qk1 {a:List Nat} {k:Nat} (h:¬ k<a.length):QbI a k=-1:=by unfold QbI;rw [dif_neg h]
theorem Qp4 {a:List Nat} (c:a.Pairwise λx d=>d<x) {k:Nat} (h:k<a.length):(QbI a (k+1)+1).toNat<(QbI a k+1).toNat:=by
 rw [QhE h];by_cases b:k+1<a.length
 ·rw [QhE b];have:=pairwise_iff_getElem.1 c k (k+1) h b (by omega);omega
 rw [Qk1 b];omega
def JR (C:List (List Nat)):List Int:=-1::C.map λc=>(JF c:Int)
theorem Qfb (C:List (List Nat)):(JR C).length=C.length+1:=by unfold JR;simp
theorem Qlr (C:List (List Nat)) (q:Nat) (a:q<C.length):(Qt (JR C))[q+1]?=some (Xi (JF C[q]:Int)):=by unfold Qt JR;rw [map_cons,getElem?_cons_succ,map_map,getElem?_map,getElem?_eq_getElem a];rfl
theorem Qhp (C:List (List Nat)) (p:Nat) (a:p<=C.length):(Qt (JR C))[p]?=some (Xi (QbJ C p)):=by unfold QbJ;cases p with| zero=>rfl| succ p =>rw [Qlr C p (by omega),if_neg (by omega)];simp only [Nat.add_sub_cancel];rw [Xg (by omega)];rfl
theorem QtC {v:Nat->Int} {C:List (List Nat)} {i:Nat} (a:Zy v C i<C.length):(JR C).set (Zy v C i+1) i=JR (Qbc v C i):=by unfold JR Qbc;rw [if_pos a,set_cons_succ,map_set];rfl
theorem QtB {v:Nat->Int} {C:List (List Nat)} {i:Nat} (a:Zy v C i=C.length):JR C++[(i:Int)]=JR (Qbc v C i):=by unfold JR Qbc;rw [if_neg (by omega),map_append];rfl
structure QaN (v:Nat->Int) (n:Nat) (w:World) (i:Nat) (wr:World) (ev av:Value):Prop where
 ends:wr.ownsRow w.heap.size 3 1 ev ((Qr v i).length+1) (Qt (JR (Qr v i)))
 ahd:∃ ah:List Int,wr.ownsRow w.heap.size 3 1 av n (Qt ah)/\Qdy (λx=>ah.getD x 0) (Qr v i) i
 apart:∀ b,ev.ownBlock=some b->av.ownBlock≠some b
 below:Xb w wr
theorem QaN.drewN {v:Nat->Int} {n:Nat} {w:World} {i:Nat} {wr:World} {ev a:Value} (h:QaN v n w i wr ev a) (m:Nat):QaN v n w i (wr.drewN m) ev a:=by obtain ⟨b,c,d⟩:=h.ahd;exact ⟨h.ends,⟨b,c,d⟩,h.apart,QL h.below m⟩
theorem QpQ {b:Nat->Int}:∀ {c:List Nat} {k:Nat},Qc9 b c->(a:k<c.length)->b c[k]=QbI c (k+1):=by
 intro c;induction c with
 | nil=>intro k _ a;exact absurd a (Nat.not_lt_zero _)
 | cons x r ih =>
  intro k hb a;cases k with
  | zero =>rw [getElem_cons_zero,hb.1];cases r with| nil=>rfl| cons d r=>rfl
  | succ k =>rw [getElem_cons_succ,ih hb.2 (by simpa using a)];unfold QbI;simp
theorem QaN.next {v:Nat->Int} {n:Nat} {w wr:World} {i g h cap a p:Nat} {ev:Value} (D:i<n) (t:QaN v n w i wr ev (Xe h n a)) {w1:World} {m:Nat} {xs:List Value} (u:Zy v (Qr v i) i=p) (j:w1.ownsRow w.heap.size 3 1 (Xe g m cap) m xs) (o:xs.set (p+1) (Xi i)=Qt (JR (Qr v (i+1)))) (y:m=(Qr v (i+1)).length+1) (B:g≠h) (hb:Xb w w1) (z:w1.heap[h]?=wr.heap[h]?) : QaN v n w (i+1) ((w1.setCell (Xa g (p+1)) (Xi i)).setCell (Xa h i) (Xi (QbJ (Qr v i) p))) (Xe g m cap) (Xe h n a):=by
 obtain ⟨c,d,A⟩:=t.ahd;have C:c.length=n:=by have:=d.1;rw [Qap] at this;omega
 have q:=(j.lt g rfl).1;have r:=(d.lt h rfl).1;have k:=(j.stored (p+1) (Xi i)).1;rw [o] at k;have s:w1.ownsRow w.heap.size 3 1 (Xe h n a) n (Qt c):=QT d λb e=>by
  have:h=b:=by simpa [Value.ownBlock] using e
  subst this;exact z
 have f:(w1.setCell (Xa g (p+1)) (Xi i)).ownsRow w.heap.size 3 1 (Xe h n a) n (Qt c):=QT s λb e=>Below.heap_setCell _ _ _ _ (by
  have:h=b:=by simpa [Value.ownBlock] using e
  show b≠g;omega)
 have l:=(f.stored i (Xi (QbJ (Qr v i) p))).1;rw [QfZ] at l;subst y;refine ⟨QT k λb e=>Below.heap_setCell _ _ _ _ (by
  have:g=b:=by simpa [Value.ownBlock] using e
  show b≠h;omega),⟨_,l,A.step (v:=v) (λx E=>?_) ?_⟩,λb e f=>?_,(hb.setCell q _).setCell r _⟩
 ·rw [getD_eq_getElem?_getD,getD_eq_getElem?_getD,getElem?_set,if_neg (by omega)]
 ·rw [getD_eq_getElem?_getD,getElem?_set,if_pos rfl,if_pos (by omega),u];rfl
 have F:g=b:=by simpa [Value.ownBlock] using e
 have G:h=b:=by simpa [Value.ownBlock] using f
 omega
theorem QqJ {w wr c:World} (h:Xb w wr) (a:Qx (λb=>w.heap.size<=b) wr c):Xb w c := ⟨a.os.trans h.os,a.tape.trans h.tape,a.output.trans h.output,Nat.le_trans h.size a.size,λb hb=>(a.block b (Nat.lt_of_lt_of_le hb h.size) (by omega)).trans (h.block b hb)⟩
theorem QnV {P:Program} {a:Act} {w:World} {f:Exit->Act->World->Prop} {c X:Code} (l:Nat) (d:Act->World->Prop) (g:Act->World->Nat) (k:findLabel c l=some (Code.skip.seq X)) (j:∀ a w,d a w->X.wp P (Exit.jump l (λi w'=>d i w'/\g i w'<g a w) f) a w) (first:(∀ a w,d a w->X.wp P (Exit.jump l d f) a w)->c.wp P (Exit.jump l d f) a w):(Code.scope c).wp P f a w:=by refine wp_scope_jumps l d g k (first λa w h=>wp_mono (j a w h) ?_) λa w h=>wp_seq (wp_skip (j a w h));intro e i w' b;cases e with| goto m=>exact ⟨b.1,b.2.1⟩| normal=>exact b| exit id=>exact b| ret=>exact b| panic n=>exact b| outgrown=>exact b
theorem Qmh (n:Nat):(madeCells #[Xi 0] n).toList=Qt (List.replicate n 0):=by
 unfold madeCells Qt;apply ext_getElem
 ·simp
 intro i a b;simp [Nat.mod_one]
theorem QqC (bK:Nat) (ao:Option Addr) (n c:Nat) (l:List Int) (v:Nat->Int) (aT:∀ j,(aU:j<l.length)->l[j]=v j) (w:World) (H:w.ownsRow bK 3 1 (.slice ao n c) n (Qt l)) (aV:n<=100000) : Xl 135 #[.slice ao n c] w λe w'=>∃ q,e=.returned q/\w'.ownsRow w.heap.size 3 1 q (Qcv v n).length (Qt (Qcv v n))/\Xb w w':=by
 obtain ⟨aB,aC,af,ag,ah⟩:=info_parts Qds;have bP:∀ u:World,(Instr.makeSlice 23 (Xi n) (Xi n)).run Tryz.prog u=.ok (Xe u.heap.size n n) (u.alloc (.cells (madeCells #[Xi 0] n) 3)):=λu=>by have h:=run_make (P:=Tryz.prog) u 23 3 aB (Xi 0) Tryz.underlying23 aC af .i64 .i64 (n:Int) (n:Int) (by omega) (Int.le_refl _) (by rw [ah];omega) (by omega);simpa [ag,Value.cells] using h
 have ac:Hid (∀ (wr:World) j,Xb w wr->j<n->∃ g,ao=some (Xa g 0)/\g<w.heap.size/\wr.cell? (Xa g j)=some (Xi (v j))):=Qa λwr j hb aU=>by obtain ⟨g,ba,e,G,_,d⟩:=QdD H aU;refine ⟨g,e,d,(Xh hb g j d).trans ?_⟩;rw [G,aT j ba]
 clear H aT;go_enter Tryz.func135,Tryz.ntmps135;go_wp2_with fail;refine QnV 0 (λa9 w'=>∃ (i:Nat) (ev aa u1 u2 u6 u7 u8 u9 u10 u11 u12 u13 u14 u15 u16 u17 u18 u19 u20 u21 u22 u23 u24 u25 u26 u27 u28 u29 u30 u31 u32 u33 u34 u35 u36 u37 u38 u39 u40 u41 u42 u43 u44 u45 u46 u47 u48 u49 u50 u51 u52 u53 u54 u55 u56 u57 u58 u59 u60 u61 u62 u63 u64 u65 u66 u67 u68 u69 u70 u71 u72 u73:Value),a9={ tmps:=#[.slice ao n c,u1,u2,ev,aa,Xi i,u6,u7,u8,u9,u10,u11,u12,u13,u14,u15,u16,u17,u18,u19,u20,u21,u22,u23,u24,u25,u26,u27,u28,u29,u30,u31,u32,u33,u34,u35,u36,u37,u38,u39,u40,u41,u42,u43,u44,u45,u46,u47,u48,u49,u50,u51,u52,u53,u54,u55,u56,u57,u58,u59,u60,u61,u62,u63,u64,u65,u66,u67,u68,u69,u70,u71,u72,u73],defers:=[] }/\i<=n/\Hid (QaN v n w i w' ev aa)) (λa9 _=>n-(intOf (a9.tmps.getD 5 undef)).toNat) rfl ?pass ?first
 case pass =>
  rintro a9 wr ⟨i,ev,aa,u1,u2,u6,u7,u8,u9,u10,u11,u12,u13,u14,u15,u16,u17,u18,u19,u20,u21,u22,u23,u24,u25,u26,u27,u28,u29,u30,u31,u32,u33,u34,u35,u36,u37,u38,u39,u40,u41,u42,u43,u44,u45,u46,u47,u48,u49,u50,u51,u52,u53,u54,u55,u56,u57,u58,u59,u60,u61,u62,u63,u64,u65,u66,u67,u68,u69,u70,u71,u72,u73,rfl,bQ,f⟩;obtain ⟨bt,X,rfl⟩:=Qz f.out.ends;obtain ⟨R,G,bb⟩:∃ R G,aa=.slice R n G:=by obtain ⟨o,s,_⟩:=f.out.ahd;exact Qz s
  subst bb;have F:=f.out.below;have bW:(Qr v i).length<=i:=by obtain ⟨o,_,z⟩:=f.out.ahd;exact z.few
  obtain ⟨B,bc⟩:∃ B,bt=some (Xa B 0):=by
   rcases f.out.ends.2 with ⟨_,e⟩|⟨g,cap,ai,e,_⟩
   ·omega
   simp at e;exact ⟨g,e.1⟩
  subst bc;by_cases aj:i<n
  ·obtain ⟨d,ak⟩:∃ d,R=some (Xa d 0):=by
    obtain ⟨o,s,_⟩:=f.out.ahd;rcases s.2 with ⟨_,e⟩|⟨g,cap,ai,e,_⟩
    ·omega
    simp at e;exact ⟨g,e.1⟩
   subst ak;have bd:(i:Int)<(n:Int):=by omega
   clear F;go_wp2;go_loopw [3,5,6] (λe aD al S=>∃ p:Nat,p<=(Qr v i).length/\e=Xe B ((Qr v i).length+1) X/\aD=Xi i/\al=Xi ((p:Int)+1)/\Hid (QaN v n w i S (Xe B ((Qr v i).length+1) X) (Xe d n G))/\Hid (∀ q,(y:q<(Qr v i).length)->q<p->v (JF (Qr v i)[q])<v i)) (λ_ _ al _=>(Qr v i).length+1-(intOf al).toNat);·exact ⟨0,Nat.zero_le _,rfl,rfl,by go_num,f,Qa λq _ h=>absurd h (Nat.not_lt_zero _)⟩
   case round =>
    clear f;obtain ⟨p,bu,rfl,rfl,rfl,f,V⟩:=hrel;have F:=f.out.below;have aI:∀ q,(y:q<(Qr v i).length)->Xc wr B (q+1) (Xi (JF (Qr v i)[q]:Int)):=λq y=>(f.out.ends.cellAt (q+1) (by omega)).trans (Qlr _ q y);have aJ:∀ q,q<=(Qr v i).length->Xc wr B q (Xi (QbJ (Qr v i) q)):=λq y=>(f.out.ends.cellAt q (by omega)).trans (Qhp _ q y);have bf:∀ q,Xf wr B q:=λq=>f.out.ends.frozenAt q;have aK:∀ q,(y:q<(Qr v i).length)->JF (Qr v i)[q]<i:=λq y=>by obtain ⟨o,_,z⟩:=f.out.ahd;have a1:(Qr v i)[q] ∈ Qr v i:=getElem_mem y;cases A:(Qr v i)[q] with| nil=>exact absurd A (z.ne _ a1)| cons O r=>rw [A] at a1;exact z.lt _ a1 O (by simp)
    obtain ⟨g,ap,a6,aW⟩:=ac.out wr i F aj;subst ap;obtain ⟨o,aE,bv⟩:∃ x,wr.cell? (Xa d i)=some x/\wr.frozen? (Xa d i)=false:=by
     obtain ⟨o,s,_⟩:=f.out.ahd;have bg:o.length=n:=by have:=s.1;rw [Qap] at this;omega
     exact ⟨_,(s.cellAt i (by omega)).trans (getElem?_eq_getElem (by rw [Qap];omega)),s.frozenAt i⟩
    have aq:=Qa aI;have ar:=Qa aJ;have au:=Qa aK;have I:=Qa F;have a7:B≠d:=λe=>f.out.apart B rfl (by rw [e];rfl);have av:d<wr.heap.size:=by obtain ⟨o,s,_⟩:=f.out.ahd;exact (s.lt d rfl).2
    clear aI aJ aK F;by_cases bh:p=(Qr v i).length
    ·have L:Hid (Zy v (Qr v i) i=(Qr v i).length):=Qa (QmM (Nat.le_refl _) (λq y h=>V.out q y (by omega)) (λh=>absurd h (Nat.lt_irrefl _)));subst bh;have ad:(Qt (JR (Qr v i))).length=(Qr v i).length+1:=by rw [Qap,Qfb]
     have aX:Hid (∀ U,(wr.alloc U).ownsRow w.heap.size 3 1 (Xe B ((Qr v i).length+1) X) ((Qr v i).length+1) (Qt (JR (Qr v i)))):=Qa λU=>f.out.ends.alloc U;have a0:=I.out.size;go_wp2_with ((at_builtin;refine Jf _ rfl (.tmp 22) (.tmp 24) 23 rfl w.heap.size 3 aB (Xi 0) 1 8 Tryz.underlying23 aC af ag ah rfl (Xe B ((Qr v i).length+1) X) _ _ rfl (aX.out _) (some (Xa wr.heap.size 0)) 1 1 [Xi i] rfl (by simp) rfl (Z9 _ _ _) (by simp [Value.oneCell']) (by omega) (by omega) (by simp;omega) ?_;intro J t D E _));obtain ⟨bw,bx,rfl⟩:=Qz D.out;obtain ⟨K,b8⟩:∃ K,bw=some (Xa K 0):=by
      rcases D.out.2 with ⟨_,e⟩|⟨K,cap,ai,e,_⟩
      ·omega
      simp at e;exact ⟨K,e.1⟩
     subst b8;have bi:K≠d:=λe=>by
      rcases E.out with ⟨T,_⟩|⟨T,_⟩
      ·have:K=B:=by simpa [Value.ownBlock] using T
       omega
      have:K=wr.heap.size+1:=by simpa [Value.ownBlock] using T
      omega
     have bR:wr.heap.size<=t.heap.size:=by have:=E.out.size;simp at this;omega
     have a5:∀ b,b<wr.heap.size->b≠B->t.heap[b]?=wr.heap[b]?:=λb hb aV=>(E.out.by.block b (by simp;omega) (λe=>aV (by simpa [Value.ownBlock] using e))).trans (Below.heap_alloc _ _ _ hb);have bS:g<wr.heap.size:=Nat.lt_of_lt_of_le a6 a0;have aw:Xb w t:=(I.out.alloc a0 _).grown E.out.by (by simp;omega) (λb e=>(f.out.ends.lt b e).1);have aY:(Qt (JR (Qr v i))++[Value.int .i64 i])[(Qr v i).length+1]?=some (Xi i):=by rw [getElem?_append_right (by omega),ad];simp
     have aZ:(Qt (JR (Qr v i))++[Value.int .i64 i])[(Qr v i).length]?=some (Xi (QbJ (Qr v i) (Qr v i).length)):=by rw [getElem?_append_left (by omega)];exact Qhp _ _ (Nat.le_refl _)
     have bX:=(D.out.cellAt ((Qr v i).length+1) (by omega)).trans aY;have bY:=(D.out.cellAt (Qr v i).length (by omega)).trans aZ;have bz:=D.out.frozenAt ((Qr v i).length+1);have bZ:Xc t g i (Xi (v i)):=(Xh aw g i a6).trans ((Xh I.out g i a6).symm.trans aW);have c0:Xc t d i o:=(World.cell?_of_block (a5 d av (by omega))).trans aE;have c1:Xf t d i:=(Qgd (a5 d av (by omega)) i).trans bv;have ax:Hid (∀ m:Nat,QaN v n w (i+1) (((t.drewN m).setCell (Xa K ((Qr v i).length+1)) (Xi i)).setCell (Xa d i) (Xi (QbJ (Qr v i) (Qr v i).length))) (Xe K ((Qr v i).length+1+1) bx) (Xe d n G)):=Qa λm=>by
      have Y:=QtB L.out;refine QaN.next aj f.out L.out (w1:=t.drewN m) D.out ?_ ?_ bi (QL aw m) (a5 d av (by omega))
      ·have bA:(Qt (JR (Qr v i))++[Value.int .i64 i]).set ((Qr v i).length+1) (Xi i)=Qt (JR (Qr v i))++[Value.int .i64 i]:=by rw [set_append_right _ _ (by omega),ad];simp
       rw [bA,<- QeQ,Y];rfl
      have:=congrArg List.length Y;rw [length_append,Qfb,Qfb] at this;simp at this;show (Qr v i).length+1+1=(Qbc v (Qr v i) i).length+1;omega
     clear D E a5 aw aY aZ aX V L;go_wp2;go_big_quiet (fail);go_wp2_with fail;go_step3;simp only [Exit.inBlock,Exit.then];refine ⟨rfl,⟨i+1,_,_,_,_,_,_,_,_,_,_,_,_,_,_,_,_,_,_,_,_,_,_,_,_,_,_,_,_,_,_,_,_,_,_,_,_,_,_,_,_,_,_,_,_,_,_,_,_,_,_,_,_,_,_,_,_,_,_,_,_,_,_,_,_,_,_,_,_,_,_,_,_,rfl,by omega,Qa (ax.out _)⟩,?_⟩;simp [intOf];omega
    have ay:p<(Qr v i).length:=by omega
    have c2:=aq.out p ay;have aL:=au.out p ay;obtain ⟨c3,aM,bL,c4⟩:=ac.out wr (JF (Qr v i)[p]) I.out (by omega);simp at aM;subst aM;have c5:=ar.out p (by omega);have a0:=I.out.size;have bM:((p:Int)+1==((Qr v i).length:Int)+1)=false:=by rw [beq_eq_false_iff_ne];omega
    by_cases az:v (JF (Qr v i)[p])<v i
    ·have bB:Hid (∀ q,(y:q<(Qr v i).length)->q<p+1->v (JF (Qr v i)[q])<v i):=Qa λq y h=>by
      by_cases e:q=p
      ·subst e;exact az
      exact V.out q y (by omega)
     clear V aq ar au;go_wp2;go_big_quiet (fail);go_wp2;go_roundw;·exact ⟨p+1,by omega,rfl,rfl,by go_num,Qa (QaN.drewN f.out _),bB⟩
     simp [intOf];omega
    have L:Hid (Zy v (Qr v i) i=p):=Qa (QmM bu (λq y h=>V.out q y h) (λ_=>az));have bN:¬ v (JF (Qr v i)[p])<v i:=az;have bz:=bf (p+1);have ax:Hid (∀ m:Nat,QaN v n w (i+1) (((wr.drewN m).setCell (Xa B (p+1)) (Xi i)).setCell (Xa d i) (Xi (QbJ (Qr v i) p))) (Xe B ((Qr v i).length+1) X) (Xe d n G)):=Qa λm=>by
     have Y:=QtC (v:=v) (C:=Qr v i) (i:=i) (by rw [L.out];exact ay);rw [L.out] at Y;refine QaN.next aj f.out L.out (w1:=wr.drewN m) f.out.ends ?_ ?_ a7 (QL I.out m) rfl
     ·rw [QfZ,Y];rfl
     have:=congrArg List.length Y;rw [length_set,Qfb,Qfb] at this;show (Qr v i).length+1=(Qbc v (Qr v i) i).length+1;omega
    clear V aq ar au L;go_wp2;go_big_quiet (fail);go_wp2_with fail;go_step3;simp only [Exit.inBlock,Exit.then];refine ⟨rfl,⟨i+1,_,_,_,_,_,_,_,_,_,_,_,_,_,_,_,_,_,_,_,_,_,_,_,_,_,_,_,_,_,_,_,_,_,_,_,_,_,_,_,_,_,_,_,_,_,_,_,_,_,_,_,_,_,_,_,_,_,_,_,_,_,_,_,_,_,_,_,_,_,_,_,_,rfl,by omega,Qa (ax.out _)⟩,?_⟩;simp [intOf];omega
  have bj:i=n:=by omega
  subst bj;have bd:¬ (i:Int)<(i:Int):=by omega
  generalize aN:Qr v i=C at *;have a8:=Qa aN;clear aN;have bC:wr.cell? (Xa B C.length)=some (Xi (QbI (C.getLastD []) 0)):=by
   have s:=f.out.ends;rw [a8.out] at s;rw [(s.cellAt C.length (by omega)).trans (Qhp C C.length (Nat.le_refl _))];congr 2
   unfold QbJ;obtain ⟨o,_,z⟩:=f.out.ahd;rw [a8.out] at z;by_cases b0:C.length=0
   ·have:C=[]:=eq_nil_of_length_eq_zero b0;subst this;rfl
   rw [if_neg b0,Xg (by omega),getLastD_eq_getLast?,getLast?_eq_getElem?,getElem?_eq_getElem (by omega)];simp only [Option.getD_some];have a1:C[C.length-1] ∈ C:=getElem_mem _;cases A:C[C.length-1] with| nil=>exact absurd A (z.ne _ a1)| cons O r=>rfl
  have aO:Hid (∃ o:List Int,wr.ownsRow w.heap.size 3 1 (.slice R i G) i (Qt o)/\Qc9 (λx=>o.getD x 0) (C.getLastD [])/\(∀ x,x ∈ C.getLastD []->x<i)/\(C.getLastD []).Pairwise λx O=>O<x):=Qa (by
   obtain ⟨o,s,z⟩:=f.out.ahd;rw [a8.out] at z;refine ⟨o,s,?_,?_,?_⟩
   ·cases A:C.getLast? with| none=>rw [getLastD_eq_getLast?,A];trivial| some b1=>rw [getLastD_eq_getLast?,A];exact z.back _ (mem_of_getLast? A)
   ·cases A:C.getLast? with
    | none=>rw [getLastD_eq_getLast?,A];intro x A;simp at A
    | some b1=>rw [getLastD_eq_getLast?,A];exact z.lt _ (mem_of_getLast? A)
   cases A:C.getLast? with| none=>rw [getLastD_eq_getLast?,A];simp| some b1=>rw [getLastD_eq_getLast?,A];exact z.dec _ (mem_of_getLast? A))
  have bk:Hid (Qcv v i=((C.getLastD []).map v).reverse):=Qa (by unfold Qcv;rw [a8.out]);have I:=Qa F;clear f F;have bT:C.length<=100000:=by omega
  generalize C.getLastD []=a at *;have bO:a.length<=a.length:=Nat.le_refl _;go_wp2;go_loopw [3,5,6] (λe aD _ S=>e=Xe B (C.length+1) X/\aD=Xi i/\S=wr) (λ_ _ _ _=>1);·exact ⟨rfl,rfl,rfl⟩
  case round =>
   obtain ⟨rfl,rfl,rfl⟩:=hrel;go_wp2;go_loopw [5,7] (λaF q S=>∃ (k:Nat) (aG:Value),k<=a.length/\aF=Xi (QbI a k)/\aG=q/\Hid (S.ownsRow w.heap.size 3 1 aG k (Qt ((a.take k).map v)))/\Hid (∃ o:List Int,S.ownsRow w.heap.size 3 1 (.slice R i G) i (Qt o)/\Qc9 (λx=>o.getD x 0) a/\(∀ x,x ∈ a->x<i)/\a.Pairwise λx O=>O<x)/\Hid (∀ b,aG.ownBlock=some b->Value.ownBlock (.slice R i G)≠some b)/\Hid (Xb w S)) (λaF _ _=>(intOf aF+1).toNat);·exact ⟨0,_,Nat.zero_le _,rfl,rfl,Qa (World.ownsRow_nil _ _ _ _),aO,Qa (λb e=>by cases e),I⟩
   case round =>
    obtain ⟨k,q,c6,rfl,rfl,H,aA,aP,F⟩:=hrel;clear aO I bC;obtain ⟨o,s,z,a2,a3⟩:=aA.out;have bU:a.length<=i:=Qrs a3 a2;by_cases W:k<a.length
    ·have aL:a[k]<i:=a2 _ (getElem_mem W);obtain ⟨g,ap,a6,aW⟩:=ac.out wr a[k] F.out aL;subst ap;obtain ⟨d,ak⟩:∃ d,R=some (Xa d 0):=by
      rcases s.2 with ⟨_,e⟩|⟨g,cap,ai,e,_⟩
      ·omega
      simp at e;exact ⟨g,e.1⟩
     subst ak;have bg:o.length=i:=by have:=s.1;rw [Qap] at this;omega
     have aQ:=QpQ z W;have aE:wr.cell? (Xa d (a[k]))=some (Xi (QbI a (k+1))):=by rw [s.cellAt a[k] (by omega)];unfold Qt;rw [getElem?_map,getElem?_eq_getElem (by omega),<- aQ];simp only [Option.map_some,getD_eq_getElem?_getD];rw [getElem?_eq_getElem (by omega)];rfl
     have aH:=Qa (Qp4 a3 W);rw [QhE W] at aH ⊢;have bl:d<wr.heap.size:=(s.lt d rfl).2;have a0:=F.out.size;have ad:(Qt ((a.take k).map v)).length=k:=by rw [Qap,length_map,length_take];omega
     obtain ⟨M,N,y⟩:=Qz H.out;subst y;have ae:Hid (∀ t J,Zl (wr.alloc (.cells #[Xi (v a[k])] 3)) t (.slice M k N) J->t.ownsRow w.heap.size 3 1 J (k+1) (Qt ((a.take k).map v)++[Xi (v a[k])])->t.ownsRow w.heap.size 3 1 J (k+1) (Qt ((a.take (k+1)).map v))/\(∃ o:List Int,t.ownsRow w.heap.size 3 1 (Xe d i G) i (Qt o)/\Qc9 (λx=>o.getD x 0) a/\(∀ x,x ∈ a->x<i)/\a.Pairwise λx O=>O<x)/\(∀ b,J.ownBlock=some b->Value.ownBlock (Xe d i G)≠some b)/\Xb w t/\t.cell? (Xa d (a[k]))=wr.cell? (Xa d (a[k]))):=Qa λt J E D=>by
      have a7:Value.ownBlock (.slice M k N)≠some d:=λe=>aP.out d e rfl;have aR:t.heap[d]?=wr.heap[d]?:=(E.by.block d (by simp;omega) (λe=>a7 e.symm)).trans (Below.heap_alloc _ _ _ bl);refine ⟨?_,⟨o,QT s λb e=>?_,z,a2,a3⟩,λb e T=>?_,(F.out.alloc a0 _).grown E.by (by simp;omega) (λb e=>(H.out.lt b e).1),World.cell?_of_block aR⟩
      ·rw [take_succ_eq_append_getElem W,map_append];have:Qt ((a.take k).map v++[a[k]].map v)=Qt ((a.take k).map v)++[Xi (v a[k])]:=QeQ _ _;rw [this];exact D
      ·have:d=b:=by simpa [Value.ownBlock] using e
       subst this;exact aR
      have bD:d=b:=by simpa [Value.ownBlock] using T
      subst bD;rcases E with ⟨a4,_⟩|⟨a4,_⟩
      ·rw [e] at a4;exact a7 a4.symm
      rw [e] at a4;have:=Option.some.inj a4;simp at this;omega
     have bm:Hid (∀ U,(wr.alloc U).ownsRow w.heap.size 3 1 (.slice M k N) k (Qt ((a.take k).map v))):=Qa λU=>H.out.alloc U;have bn:=Qa aE;generalize bV:a[k]=bE at *;clear aA H s z a2 a3 aQ aP;go_wp2_with ((at_builtin;refine Jf _ rfl (.tmp 64) (.tmp 69) 23 rfl w.heap.size 3 aB (Xi 0) 1 8 Tryz.underlying23 aC af ag ah rfl (.slice M k N) _ _ rfl (bm.out _) (some (Xa wr.heap.size 0)) 1 1 [Xi (v bE)] rfl (by simp) rfl (Z9 _ _ _) (by simp [Value.oneCell']) (by omega) (by omega) (by simp;omega) ?_;intro J t D E _;have c7:=(ae.out t J E.out D.out).2.2.2.2.trans bn.out));obtain ⟨b2,b3,b4,b5,bF⟩:=ae.out t J E.out D.out;have bG:=Qa b2;have bH:=Qa b3;have bI:=Qa b4;have bJ:=Qa b5;clear b2 b3 b4 b5 bF D E ae;go_roundw;·exact ⟨k+1,_,by omega,rfl,rfl,bG,bH,bI,bJ⟩
     exact aH.out
    have bo:k=a.length:=by omega
    rw [Qk1 W];have ab:=H.out;rw [bo,take_length] at ab;obtain ⟨M,N,y⟩:=Qz ab;subst y;have b9:a.length<=1000000:=by omega
    have bp:Hid (Xl 172 #[.slice M a.length N] wr λe w'=>e=.returned (.tuple #[])/\w'.ownsRow w.heap.size 3 1 (.slice M a.length N) a.length (Qt (a.map v).reverse)/\Qx (λb=>w.heap.size<=b) wr w'):=Qa (Qpe w.heap.size M a.length N (a.map v) wr ab b9);have b6:(a.map v).reverse.length=a.length:=by rw [length_reverse,length_map]
    clear H aA s z a2 a3 ab;go_wp2_with (first|(go_at_call 172;refine (Qb bp).mono ?_;rintro e c8 ⟨rfl,bq,br⟩));simp only [Exit.jump];go_ret;refine ⟨_,rfl,?_,QqJ F.out br⟩;rw [bk.out,b6];exact bq
 case first =>
  intro b7;go_wp2_with fail;have aS:QaN v n w 0 ((w.alloc (.cells #[Xi (-1)] 3)).alloc (.cells (madeCells #[Xi 0] n) 3)) (Xe w.heap.size 1 1) (Xe (w.heap.size+1) n n):=by
   refine ⟨?_,⟨List.replicate n 0,?_,Qdy.zero _⟩,λb e T=>?_,Xn⟩
   ·exact (World.ownsRow_lit (size:=1) w #[Xi (-1)] 1 (Nat.le_refl _) (by unfold maxLen;omega) rfl).alloc _
   ·have h:=World.ownsRow_lit (base:=w.heap.size) (e:=3) (size:=1) (w.alloc (.cells #[Xi (-1)] 3)) (madeCells #[Xi 0] n) n (by simp) (by unfold maxLen;omega) (by rw [size_madeCells];omega);rw [Qmh,World.size_alloc] at h;exact h
   have s:w.heap.size=b:=by simpa [Value.ownBlock] using e
   have z:w.heap.size+1=b:=by simpa [Value.ownBlock] using T
   omega
  have bs:=Qa aS;clear aS;go_step3;simp only [Exit.then];rename_i hK;refine hK _ _ ?_;apply b7;exact ⟨0,_,_,_,_,_,_,_,_,_,_,_,_,_,_,_,_,_,_,_,_,_,_,_,_,_,_,_,_,_,_,_,_,_,_,_,_,_,_,_,_,_,_,_,_,_,_,_,_,_,_,_,_,_,_,_,_,_,_,_,_,_,_,_,_,_,_,_,_,_,_,_,_,rfl,Nat.zero_le _,bs⟩
end Go.Proofs.YtobgcaemnpkbmaaGreatDoor
