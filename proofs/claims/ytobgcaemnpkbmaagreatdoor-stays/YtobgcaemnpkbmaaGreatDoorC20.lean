import Derived.WideKeyEntry
import Derived.DeepKeys4
import Derived.Test.YtobgcaemnpkbmaaGreatDoorC19
namespace Go.Proofs.YtobgcaemnpkbmaaGreatDoor
set_option maxRecDepth 100000
set_option maxHeartbeats 8000000
open Go.RowKit List
open Go.Maps (Keyed)
theorem Qt5:laidOutB Tryz.prog=true:=by kernel_rfl
theorem QkL:(247:TypeId)<Tryz.prog.types.size:=of_decide_eq_true (by kernel_rfl)
theorem QpC:(match Tryz.prog.underlying 247 with|some (.array _ _)|some (.struct _)=>true|_=>false)=true:=by kernel_rfl
theorem QcK:WideMaps.KeyLaw Tryz.prog 247:=deep_law_laid Qt5 (m:=2) (by omega) QkL (by kernel_rfl) QpC
theorem Qen:Keyed Tryz.prog 247:=Keyed.of_law QcK
structure LK where
 tag:ByteArray
 key:Int
 ahead:Int
 deriving DecidableEq
def LK.val (x:LK):Value:=.agg #[.string x.tag,.int .i64 x.key,.int .i64 x.ahead]
structure LK.Ok (x:LK):Prop where
 tag:x.tag.size<=maxLen
 key:Qg x.key
 ahead:Qg x.ahead
theorem Qq5:Tryz.prog.keyType 247=true:=by kernel_rfl
theorem QiJ:Tryz.prog.cellsOf 247=3:=by kernel_rfl
theorem Qqa:Tryz.prog.cellsOf 3=1:=by kernel_rfl
theorem QpD:Tryz.prog.cellsOf 9=1:=by kernel_rfl
theorem Qst:∃ d,Tryz.prog.types.size=d+1:=⟨Tryz.prog.types.size-1,by have h:(247:Nat)<Tryz.prog.types.size:=QkL;omega⟩
theorem Qoy (x:LK) (h:x.Ok):∃ l,keyOf Tryz.prog 247 x.val=some l:=by
 obtain ⟨d,a⟩:=Qst;have b:=Qe2 h.key;have c:=Qe2 h.ahead;have f:=h.tag;refine ⟨.string (keyBytes [.string x.tag.data.toList,.int .i64 x.key,.int .i64 x.ahead]),?_⟩;have g:Tryz.prog.keyLits (d+1+1) 247 [.string x.tag,.int .i64 x.key,.int .i64 x.ahead]=some [.string x.tag.data.toList,.int .i64 x.key,.int .i64 x.ahead]:=by unfold Program.keyLits;simp only [Tryz.underlying247];simp [QiJ,Qqa,QpD,Program.keyLits,Tryz.underlying3,Tryz.underlying9,b,c,f]
 unfold keyOf LK.val;simp only [Tryz.underlying247,Qq5,Value.formed,QiJ,Value.cells,a];simp [g]
noncomputable def LK.lit (x:LK):Lit:=(keyOf Tryz.prog 247 x.val).getD (.bool false)
theorem LK.keyOf {x:LK} (h:x.Ok):keyOf Tryz.prog 247 x.val=some x.lit:=by obtain ⟨l,a⟩:=Qoy x h;unfold LK.lit;rw [a];rfl
theorem LK.inj {x d:LK} (g:x.Ok) (h:d.Ok) (e:x.lit=d.lit):x=d:=by have f:=LK.keyOf g;have i:=LK.keyOf h;rw [e] at f;have:=Qen.inj f i;unfold LK.val at this;obtain ⟨a,b,c⟩:=x;obtain ⟨j,k,l⟩:=d;simp at this;obtain ⟨rfl,rfl,rfl⟩:=this;rfl
def Za (w:World) (a:Nat) (f:LK->Option Int) (b:Nat):Prop :=
 ∃ D:DataW Value,w.ownsMap Tryz.prog 247 QbR a b D/\∀ x:LK,x.Ok->Go.Maps.has D x.lit=(f x).isSome/\D.atKey x.lit (.held (.int .i64 0))=.held (.int .i64 ((f x).getD 0))
theorem Za.heap {w w':World} {a:Nat} {f:LK->Option Int} {b:Nat} (h:Za w a f b) (hb:w'.heap[a]?=w.heap[a]?):Za w' a f b:=by obtain ⟨D,⟨d,c,g,i⟩,j⟩:=h;exact ⟨D,⟨d,c,hb.trans g,i⟩,j⟩
theorem Za.lt {w:World} {a:Nat} {f:LK->Option Int} {b:Nat} (h:Za w a f b):a<w.heap.size:=by obtain ⟨D,h,_⟩:=h;exact h.lt
theorem Za.made (w:World):Za (w.alloc (.map #[] 0)) w.heap.size (λ_=>none) 0 := ⟨.map [],World.ownsMap_made w _ _ _,λ_x _=>⟨rfl,rfl⟩⟩
theorem Za.look {w:World} {b:Nat} {f:LK->Option Int} {j:Nat} (h:Za w b f j) {x:LK} (c:x.Ok):(Instr.lookup 245 (.map (some b)) x.val false).run Tryz.prog w=.ok (.int .i64 ((f x).getD 0)) w:=by obtain ⟨D,d,g⟩:=h;obtain ⟨v,ps,i,a⟩:=d.lookup Qen Tryz.underlying245 (Tryz.zeroValue3 w) (zd:=.held (.int .i64 0)) (zp:=[]) rfl (LK.keyOf c);rw [(g x c).2] at a;unfold QbR at a;simp at a;rw [i,a.1]
theorem Za.look2 {w:World} {c:Nat} {f:LK->Option Int} {j:Nat} (h:Za w c f j) {x:LK} (b:x.Ok):(Instr.lookup 245 (.map (some c)) x.val true).run Tryz.prog w=.ok (.tuple #[.int .i64 ((f x).getD 0),.bool (f x).isSome]) w:=by obtain ⟨D,g,d⟩:=h;obtain ⟨v,ps,i,a⟩:=g.look_ok Qen Tryz.underlying245 (Tryz.zeroValue3 w) (zd:=.held (.int .i64 0)) (zp:=[]) rfl (LK.keyOf b);rw [(d x b).2] at a;unfold QbR at a;simp at a;rw [i,a.1,(d x b).1]
def Qah (f:LK->Option Int) (x:LK) (v:Int):LK->Option Int:=λa=>if a=x then some v else f a
theorem Za.put {w w':World} {b:Nat} {f:LK->Option Int} {d:Nat} {D:DataW Value} (h:w.ownsMap Tryz.prog 247 QbR b d D) (j:∀ x:LK,x.Ok->Go.Maps.has D x.lit=(f x).isSome/\D.atKey x.lit (.held (.int .i64 0))=.held (.int .i64 ((f x).getD 0))) {x:LK} (l:x.Ok) {v:Int} (m:w'.ownsMap Tryz.prog 247 QbR b (d+1) (D.put x.lit (.held (.int .i64 v)))):Za w' b (Qah f x v) (d+1):=by
 refine ⟨_,m,λa c=>?_⟩;unfold Qah;by_cases e:a=x
 ·subst e;have i:WideAt.IsKeyLit a.lit:=Qen.key (LK.keyOf c);rw [if_pos rfl,Go.Maps.has_put_same (k:=a.lit) h.isMap i,Go.Maps.atKey_put_same (k:=a.lit) h.isMap i];exact ⟨rfl,rfl⟩
 have g:a.lit≠x.lit:=λn=>e (LK.inj c l n);rw [if_neg e,Go.Maps.has_put_other g,Go.Maps.atKey_put_other g];exact j a c
theorem Za.update {w:World} {a:Nat} {f:LK->Option Int} {b:Nat} (h:Za w a f b) (k:b<maxLen) {x:LK} (c:x.Ok) (v:Int) : ∃ w',(Instr.mapUpdate 245 (.map (some a)) x.val (.int .i64 v)).run Tryz.prog w=.ok () w'/\Za w' a (Qah f x v) (b+1)/\w.grownBy w' (some a)/\w'.heap.size=w.heap.size:=by obtain ⟨D,g,l⟩:=h;obtain ⟨w',j,m,i⟩:=g.store Qen Tryz.underlying245 k (LK.keyOf c) (val:=.int .i64 v) (d:=.held (.int .i64 v)) (ps:=[]) rfl;refine ⟨w',j,Za.put g l c m,i.grown,?_⟩;obtain ⟨p,q,n,o,_,rfl⟩:=i;simp [Go.ChangeMaps.setBlock]
open Go.Maps (Keyed)
open Go.ChangeMaps (setBlock heap_setBlock_same)
theorem Za.entry {w:World} {a:Nat} {f:LK->Option Int} {s:Nat} (h:Za w a f s) (C:s<maxLen) {x:LK} (b:x.Ok) : ∃ r t w1,(Instr.mapEntry 245 (.map (some a)) x.val).run Tryz.prog w=.ok (.tuple #[r,goInt t]) w1/\(∃ E,Za w1 a E (s+1)/\(E x).getD 0=(f x).getD 0)/\w.grownBy w1 (some a)/\w1.heap.size=w.heap.size /\ ∀ (w2:World) (v:Int),w2.heap[a]?=w1.heap[a]?->∃ y,(Instr.entryStore 245 (.map (some a)) (goInt t) (Xi v)).run Tryz.prog w2=.ok () y/\Za y a (Qah f x v) (s+1)/\w2.grownBy y (some a)/\y.heap.size=w2.heap.size:=by
 have n:=h;obtain ⟨D,⟨c,d,hb,F,a0,a1⟩,a2⟩:=h;obtain ⟨r,t,k,i,m,Y,J⟩:=WideElems.entry_then_store QcK Tryz.underlying245 (λu=>Tryz.zeroValue3 u) hb F (LK.keyOf b);have K:w.grownBy (setBlock w a (.map k i)) (some a):=(World.mapTurned.grown ⟨c,d,k,i,hb,rfl⟩);have L:(setBlock w a (.map k i)).heap.size=w.heap.size:=by simp [setBlock]
 refine ⟨r,t,setBlock w a (.map k i),m,?_,K,L,λw2 v M=>?_⟩
 ·rcases QcK.find w (LK.keyOf b) c.toList F.keys with ⟨g,l⟩|⟨j,o,g,l,G⟩
  · -- not found: as if 0 were put
   have A:(Instr.mapEntry 245 (.map (some a)) x.val).run Tryz.prog w=.ok (.tuple #[Xi 0,goInt d]) (setBlock w a (.map (c.push ⟨x.val,Xi 0,d⟩) (d+1))):=by simp [Instr.mapEntry,run_underlying Tryz.underlying245,MapKept.run_getObj_map hb,QcK.check w false (LK.keyOf b),g,Tryz.zeroValue3,MapKept.run_setObj_map _ hb,Result.andThen,setBlock]
   have T:(Instr.mapUpdate 245 (.map (some a)) x.val (Xi 0)).run Tryz.prog w=.ok () (setBlock w a (.map (c.push ⟨x.val,Xi 0,d⟩) (d+1))):=by simp [Instr.mapUpdate,run_underlying Tryz.underlying245,MapKept.run_getObj_map hb,QcK.check w false (LK.keyOf b),g,MapKept.run_setObj_map _ hb,Result.andThen,setBlock]
   obtain ⟨w',p,B,_,_⟩:=n.update C b 0;rw [T] at p;rw [A] at m;injection m with _ hw1;injection p with _ hw';refine ⟨_,by rw [<- hw1,hw'];exact B,?_⟩;have N:f x=none:=by
    have a3:=n.look b;have q:=n.look2 b;have U:(Instr.lookup 245 (.map (some a)) x.val true).run Tryz.prog w=.ok (.tuple #[Xi 0,.bool false]) w:=by simp [Instr.lookup,run_underlying Tryz.underlying245,MapKept.run_getObj_map hb,QcK.check w c.isEmpty (LK.keyOf b),g,Tryz.zeroValue3,Result.andThen]
    rw [U] at q;injection q with q;cases O:f x with| none=>rfl| some a4=>rw [O] at q;simp at q
   unfold Qah;rw [if_pos rfl,N];rfl
  have A:(Instr.mapEntry 245 (.map (some a)) x.val).run Tryz.prog w=.ok (.tuple #[o.val,goInt o.born]) (setBlock w a (.map c d)):=by
   have V:c[j]?=some o:=by simpa using l
   have I:c.modify j (λe=>{ e with key:=x.val })=c:=by
    apply Array.ext';rw [Array.toList_modify,ChangeMaps.modify_eq_set _ _ _ _ l];have:({ o with key:=x.val }:MapEntry)=o:=by rw [<- G]
    rw [this];exact WideElems.set_self _ _ _ l
   simp [Instr.mapEntry,run_underlying Tryz.underlying245,MapKept.run_getObj_map hb,QcK.check w false (LK.keyOf b),g,V,G,QcK.stays w (LK.keyOf b),I,MapKept.run_setObj_map _ hb,Result.andThen,setBlock]
  rw [A] at m;injection m with _ hw1;refine ⟨f,?_,rfl⟩;rw [<- hw1];have W:(setBlock w a (.map c d)).heap[a]?=w.heap[a]?:=by rw [heap_setBlock_same hb,hb]
  obtain ⟨X,P,R⟩:=n.heap W;exact ⟨X,P.mono (Nat.le_succ s),R⟩
 have z:w2.heap[a]?=some (.map k i):=by rw [M,heap_setBlock_same hb]
 obtain ⟨S,H,g,l⟩:=J w2 (Xi v) z;obtain ⟨w',p,B,_,_⟩:=n.update C b v;rw [l] at p;injection p with _ hw';refine ⟨_,g,B.heap (by rw [heap_setBlock_same z,<- hw',heap_setBlock_same hb]),World.mapTurned.grown ⟨k,i,S,H,z,rfl⟩,by simp [setBlock]⟩
theorem QkO (a:Nat) (f:LK->Option Int) (k:Nat) (tag:ByteArray) (key c:Int) (w:World) (h:Za w a f k) (ah:k<1000000) (P:tag.size<=maxLen) (R:Qg key) (D:(f ⟨tag,key,0⟩).getD 0=c) (ad:0<=c) (ae:c<=1000000) : Xl 170 #[.map (some a),.string tag,Xi key] w λe w'=>e=.returned (LK.val ⟨tag,key,c⟩)/\Za w' a (Qah f ⟨tag,key,0⟩ (c+1)) (k+1)/\Qx (λb=>b=a) w w':=by
 have p:(⟨tag,key,0⟩:LK).Ok:=⟨P,R,by show Qg 0;unfold Qg;omega⟩;have a0:=h.lt;have T:Hid (∀ w',w'.heap[a]?=w.heap[a]?->Za w' a f k):=Qa λw' e=>h.heap e;clear h;go_enter Tryz.func170,Tryz.ntmps170;go_wp2_with fail;generalize g:(w.alloc (.cells #[Xo,Xi 0,Xi 0] 247)).alloc (.cells #[.string tag,Xi key,Xi 0] 247)=d;have i:=Xu g;have ai:d.heap.size=w.heap.size+1+1:=by rw [<- g];simp
 have E:=Xy g 0 (.string tag) rfl;have F:=Xy g 1 (Xi key) rfl;have G:=Xy g 2 (Xi 0) rfl;have U:d.heap[w.heap.size]?=some (.cells #[Xo,Xi 0,Xi 0] 247 (0,0)):=by rw [<- g,Below.heap_alloc _ _ _ (by simp)];show (w.heap.push _)[w.heap.size]?=_;simp
 have z:Za d.drew a f k:=T.out _ (i.block a a0);have V:(Instr.lookup 245 (.map (some a)) (.agg #[.string tag,Xi key,Xi 0]) false).run Tryz.prog d.drew=.ok (Xi c) d.drew:=by have:=z.look p;rw [D] at this;exact this
 obtain ⟨r,W,w1,H,⟨aj,L,M⟩,l,N,O⟩:=z.entry (by unfold maxLen;omega) p;have H:(Instr.mapEntry 245 (.map (some a)) (.agg #[.string tag,Xi key,Xi 0])).run Tryz.prog d.drew=.ok (.tuple #[r,goInt W]) w1:=H;have a1:(Instr.lookup 245 (.map (some a)) (.agg #[.string tag,Xi key,Xi 0]) false).run Tryz.prog w1=.ok (Xi c) w1:=by have:=L.look p;rw [M,D] at this;exact this
 obtain ⟨w2,A,B,m,a2⟩:=O w1 (c+1) rfl;have A:(Instr.entryStore 245 (.map (some a)) (Xi (W:Int)) (Xi (c+1))).run Tryz.prog w1=.ok () w2:=A;have af:IntKind.i64.wrap (c+1)=c+1:=by rw [IntKind.wrap_i64];omega
 have ac:IntKind.i64.wrap (c+1-1)=c:=by rw [IntKind.wrap_i64];omega
 have ag:(Instr.lookup 245 (.map (some a)) (.agg #[.string tag,Xi key,Xi 0]) false).run Tryz.prog w2=.ok (Xi (c+1)) w2:=by have:=B.look p;unfold Qah at this;rw [if_pos rfl] at this;exact this
 have C:∀ b,b<d.heap.size->b≠a->w1.heap[b]?=d.heap[b]?:=λb hb j=>l.block b hb (λe=>j (Option.some.inj e));have Y:w1.heap.size=d.heap.size:=N;have q:∀ b,b<d.heap.size->b≠a->w2.heap[b]?=d.heap[b]?:=λb hb j=>(m.block b (by omega) (λe=>j (Option.some.inj e))).trans (C b hb j);have s:=C (w.heap.size+1) (by omega) (by omega);have t:=q (w.heap.size+1) (by omega) (by omega);have ak:Xc w1 (w.heap.size+1) 0 (.string tag):=(World.cell?_of_block s).trans E;have al:Xc w1 (w.heap.size+1) 1 (Xi key):=(World.cell?_of_block s).trans F;have ao:Xc w1 (w.heap.size+1) 2 (Xi 0):=(World.cell?_of_block s).trans G;have ap:Xc w2 (w.heap.size+1) 0 (.string tag):=(World.cell?_of_block t).trans E;have aq:Xc w2 (w.heap.size+1) 1 (Xi key):=(World.cell?_of_block t).trans F;have ar:Xc w2 (w.heap.size+1) 2 (Xi 0):=(World.cell?_of_block t).trans G;have n:w2.heap[w.heap.size]?=some (.cells #[Xo,Xi 0,Xi 0] 247 (0,0)):=(q _ (by omega) (by omega)).trans U;have a4:w2.cell? (Xa w.heap.size 0)=some Xo:=by simp [World.cell?,n]
 have a5:w2.cell? (Xa w.heap.size 1)=some (Xi 0):=by simp [World.cell?,n]
 have a6:w2.cell? (Xa w.heap.size 2)=some (Xi 0):=by simp [World.cell?,n]
 have au:∀ X,w2.frozen? (Xa w.heap.size X)=false:=λX=>by simp [World.frozen?,n]
 have K:Hid (∀ u x y,Za (((w2.setCell (Xa w.heap.size 0) u).setCell (Xa w.heap.size 1) x).setCell (Xa w.heap.size 2) y) a (Qah f ⟨tag,key,0⟩ (c+1)) (k+1)/\Qx (λb=>b=a) w (((w2.setCell (Xa w.heap.size 0) u).setCell (Xa w.heap.size 1) x).setCell (Xa w.heap.size 2) y)):=Qa λu x y=>by have a7:Qx (λb=>b=a) w w2:=⟨m.os.trans (l.os.trans i.os),m.tape.trans (l.tape.trans i.tape),m.output.trans (l.output.trans i.output),by omega,λb hb j=>(q b (by omega) j).trans (i.block b hb)⟩;refine ⟨B.heap ?_,((a7.set (.inr (Nat.le_refl _)) u).set (.inr (Nat.le_refl _)) x).set (.inr (Nat.le_refl _)) y⟩;rw [Below.heap_setCell _ _ _ _ (by show a≠w.heap.size;omega),Below.heap_setCell _ _ _ _ (by show a≠w.heap.size;omega),Below.heap_setCell _ _ _ _ (by show a≠w.heap.size;omega)]
 clear g i T z L B l m O C q s t U n N a2 Y p P R D M;have a3:(λw':World=>Xc w' (w.heap.size+1) 0 (.string tag)/\Xc w' (w.heap.size+1) 1 (Xi key)/\Xc w' (w.heap.size+1) 2 (Xi 0)/\(Instr.lookup 245 (.map (some a)) (.agg #[.string tag,Xi key,Xi 0]) false).run Tryz.prog w'=.ok (Xi c) w') d.drew:=⟨E,F,G,V⟩;refine Zm (S:=(λw':World=>w'.cell? (Xa (w.heap.size+1) 0)=some (.string tag)/\w'.cell? (Xa (w.heap.size+1) 1)=some (Xi key)/\w'.cell? (Xa (w.heap.size+1) 2)=some (Xi 0)/\(Instr.lookup 245 (.map (some a)) (.agg #[.string tag,Xi key,Xi 0]) false).run Tryz.prog w'=.ok (Xi c) w')) (by kernel_rfl) ?_;iterate 4
  apply Q0 ?_ a3 ?_;rotate_left
  ·(intro w' hSw;(try obtain ⟨q0,av,aw,ax⟩:=hSw);simp only [Xq];go_simp;try (with_reducible rfl))
  simp only [Xq,Xr]
 refine Qq 4 ?_;simp only [Xq];go_simp;refine Qq 5 ?_;simp only [Xq];go_simp;refine Qq 6 ?_;simp only [Xq];go_simp;refine ⟨.inl (by kernel_rfl),?_⟩;refine Zk (by kernel_rfl) ?_ _;clear H A V a1;go_wp2_with fail;generalize o:((w2.setCell (Xa w.heap.size 0) (.string tag)).setCell (Xa w.heap.size 1) (Xi key)).setCell (Xa w.heap.size 2) (Xi c)=I;have a8:I.cell? (Xa w.heap.size 0)=some (.string tag):=by rw [<- o];simp [go_sem,a4]
 have a9:I.cell? (Xa w.heap.size 1)=some (Xi key):=by rw [<- o];simp [go_sem,a5]
 have aa:I.cell? (Xa w.heap.size 2)=some (Xi c):=by rw [<- o];simp [go_sem,a6]
 have J:=K.out (.string tag) (Xi key) (Xi c);rw [o] at J;have ab:=Qa J;clear o J K;refine bodyPost_ret (v:=.agg #[.string tag,Xi key,Xi c]) (by simp [results,Tryz.results170,go_sem,a8,a9,aa]) rfl ?_;exact ⟨rfl,ab.out⟩
open Go.ChangeMaps (setBlock heap_setBlock_same)
def Zf (A:Nat->ByteArray × Int) (x:ByteArray × Int):Nat->Nat
 | 0=>0
 | i+1=>Zf A x i+(if A i=x then 1 else 0)
theorem QgS (A:Nat->ByteArray × Int) (x:ByteArray × Int):∀ i,Zf A x i<=i:=by intro i;induction i with| zero=>exact Nat.le_refl _| succ i ih=>rw [Zf];split<;>omega
def Qbs (A:Nat->ByteArray × Int):Nat->LK->Option Int
 | 0=>λ_=>none
 | i+1=>Qah (Qbs A i) ⟨(A i).1,(A i).2,0⟩ ((Zf A (A i) i:Int)+1)
theorem Qly (A:Nat->ByteArray × Int) (t:ByteArray) (k:Int):∀ i,(Qbs A i ⟨t,k,0⟩).getD 0=(Zf A (t,k) i:Int):=by
 intro i;induction i with
 | zero=>rfl
 | succ i ih =>
  rw [Qbs,Zf];unfold Qah;by_cases e:A i=(t,k)
  ·have a:(A i).1=t:=by rw [e]
   have b:(A i).2=k:=by rw [e]
   rw [if_pos (by rw [a,b]),if_pos e,e];simp
  rw [if_neg (λh=>by injection h with h1 h2;exact e (Prod.ext h1.symm h2.symm)),if_neg e,ih];simp
def J4 (A:Nat->ByteArray × Int):Nat->LK->Option Int
 | 0=>λ_=>none
 | i+1=>Qah (J4 A i) ⟨(A i).1,(A i).2,Zf A (A i) i⟩ i
theorem QrU (A:Nat->ByteArray × Int) (x:LK):∀ i v,J4 A i x=some v->0<=v/\v<(i:Int):=by
 intro i;induction i with
 | zero=>intro v h;cases h
 | succ i ih =>
  intro v h;rw [J4] at h;unfold Qah at h;split at h
  ·cases h;omega
  have:=ih v h;omega
def Qa8 (A:Nat->ByteArray × Int) (n:Nat) (a:Nat->ByteArray × Int) (j:Nat):Int:=(J4 A n ⟨(a j).1,(a j).2,Zf a (a j) j⟩).getD (-1)
def J3 (A:Nat->ByteArray × Int) (n:Nat) (a:Nat->ByteArray × Int) (m:Nat):List Int:=(List.range m).map (Qa8 A n a)
theorem Qp6 (A:Nat->ByteArray × Int) (n:Nat) (a:Nat->ByteArray × Int) (m:Nat):J3 A n a (m+1)=J3 A n a m++[Qa8 A n a m]:=by unfold J3;rw [range_succ,map_append];rfl
theorem QhI (A:Nat->ByteArray × Int) (n:Nat) (a:Nat->ByteArray × Int) (m:Nat):(J3 A n a m).length=m:=by unfold J3;simp
theorem Za.cleared {w:World} {a:Nat} {f:LK->Option Int} {i:Nat} (h:Za w a f i) : ∃ w',(∀ d,(Builtin.clear_ #[245] d #[.map (some a)]).run Tryz.prog w=.ok (.tuple #[]) w')/\Za w' a (λ_=>none) 0/\w.grownBy w' (some a)/\w'.heap.size=w.heap.size:=by
 obtain ⟨D,⟨g,b,hb,F,j,k⟩,l⟩:=h;refine ⟨setBlock w a (.map #[] b),?_,?_,World.mapTurned.grown ⟨g,b,#[],b,hb,rfl⟩,by simp [setBlock]⟩
 ·intro d;simp [Builtin.clear_,run_underlying Tryz.underlying245,MapKept.run_getObj_map hb,MapKept.run_setObj_map _ hb,Result.andThen,setBlock]
 refine ⟨.map [],⟨#[],b,heap_setBlock_same hb _,?_,by simp,rfl⟩,λx _=>⟨rfl,rfl⟩⟩;exact ⟨Nat.zero_le _,⟨λx c=>by simp at c,by simp,by simp⟩,λx c=>by simp at c⟩
def Qmg (w:World) (a:Option Addr) (n:Nat) (A:Nat->ByteArray × Int):Prop :=
 ∀ j,j<n->∃ g P,a=some (Xa g 0)/\g<w.heap.size/\P<w.heap.size/\w.cell? (Xa g j)=some (Xp P)/\w.cell? (Xa P 1)=some (Xi (A j).2)/\w.cell? (Xa P 2)=some (.string (A j).1)/\(A j).1.size<=maxLen/\Qg (A j).2
def Qg1 (w:World) (f:Option Addr) (m:Nat) (a:Nat->ByteArray × Int):Prop :=
 ∀ j,j<m->∃ g b d l c,f=some (Xa g 0)/\g<w.heap.size/\b<w.heap.size/\w.cell? (Xa g j)=some (.slice (some (Xa b d)) (l+1) c)/\w.cell? (Xa b (d+1))=some (.string (a j).1)/\w.cell? (Xa b (d+2))=some (Xi (a j).2)/\(a j).1.size<=maxLen/\Qg (a j).2/\l<=1000000
def Qew (A:Nat->ByteArray × Int) (w:World) (i:Nat) (wr:World):Prop:=Za wr w.heap.size (J4 A i) i/\Za wr (w.heap.size+1) (Qbs A i) i/\Xb w wr
def QgU (A:Nat->ByteArray × Int) (n:Nat) (a:Nat->ByteArray × Int) (w:World) (j:Nat) (wr:World):Prop:=Za wr w.heap.size (J4 A n) n/\Za wr (w.heap.size+1) (Qbs a j) j/\Xb w wr
theorem QrI {A:Nat->ByteArray × Int} {w wr f:World} {i:Nat} (h:Qew A w i wr) (r:i<1000000) (l:(A i).1.size<=maxLen) (m:Qg (A i).2) (g:Za f (w.heap.size+1) (Qah (Qbs A i) ⟨(A i).1,(A i).2,0⟩ ((Zf A (A i) i:Int)+1)) (i+1)) (a:Qx (λb=>b=w.heap.size+1) wr f) : ∃ w',(Instr.mapUpdate 245 (.map (some w.heap.size)) (.agg #[.string (A i).1,Xi (A i).2,Xi (Zf A (A i) i:Int)]) (Xi i)).run Tryz.prog f=.ok () w'/\Qew A w (i+1) w':=by
 obtain ⟨j,s,c⟩:=h;have n:Za f w.heap.size (J4 A i) i:=j.heap (a.block _ j.lt (by omega));have t:=QgS A (A i) i;obtain ⟨w',o,k,d,u⟩:=n.update (by unfold maxLen;omega) (x:=⟨(A i).1,(A i).2,(Zf A (A i) i:Int)⟩) ⟨l,m,by show Qg (Zf A (A i) i:Int);unfold Qg;omega⟩ i;refine ⟨w',o,k,g.heap (d.block _ g.lt (by simp)),⟨d.os.trans (a.os.trans c.os),d.tape.trans (a.tape.trans c.tape),d.output.trans (a.output.trans c.output),?_,λb hb=>?_⟩⟩
 ·have:=a.size;have:=c.size;omega
 have p:=c.size;have q:=a.size;exact (d.block b (by omega) (λe=>by have:=Option.some.inj e;omega)).trans ((a.block b (by omega) (by omega)).trans (c.block b hb))
theorem Qtg (ao:Nat) (aG:Option Addr) (n b0:Nat) (A:Nat->ByteArray × Int) (aH:Option Addr) (m b1:Nat) (a:Nat->ByteArray × Int) (w:World) (bn:ao<w.heap.size) (aI:n<1000000) (bo:m<1000000) (bp:Xc w ao 6 (.slice aG n b0)) (aJ:Qmg w aG n A) (aK:Qg1 w aH m a) : Xl 133 #[Xp ao,.slice aH m b1] w λe w'=>∃ q,e=.returned q/\w'.ownsRow w.heap.size 3 1 q m (Qt (J3 A n a m))/\Xb w w':=by
 obtain ⟨aL,aM,ap,aq,ar⟩:=info_parts Qds;have bc:∀ w1:World,(Instr.makeMap 245 none).run Tryz.prog w1=.ok (.map (some w1.heap.size)) (w1.alloc (.map #[] 0)):=λw1=>run_makeMap _ w1;have b2:=Qa aJ;have b3:=Qa aK;clear aJ aK;go_enter Tryz.func133,Tryz.ntmps133;go_wp2_with fail;have au:Qew A w 0 ((w.alloc (.map #[] 0)).alloc (.map #[] 0)):=by
  refine ⟨(Za.made w).heap ?_,?_,Xn⟩
  ·exact Below.heap_alloc _ _ _ (by simp)
  have:=Za.made (w.alloc (.map #[] 0));rw [World.size_alloc] at this;exact this
 have av:=Qa au;clear au;go_loopw [7,8,21] (λ_ _ i wr=>∃ k:Nat,k<=n/\i=Xi k/\Hid (Qew A w k wr)) (λ_ _ i _=>n-(intOf i).toNat);·exact ⟨0,Nat.zero_le _,rfl,av⟩
 case round =>
  obtain ⟨k,bq,rfl,o⟩:=hrel;clear av;have h:=o.out.2.2;by_cases a8:k<n
  ·obtain ⟨g,P,aR,ae,a1,L,M,N,B,C⟩:=b2.out k a8;subst aR;have b4:=(Xh h g k ae).trans L;have G:=(Xh h P 1 a1).trans M;have H:=(Xh h P 2 a1).trans N;have bd:(k:Int)<(n:Int):=by omega
   have E:Hid (∀ p,p.heap[w.heap.size+1]?=wr.heap[w.heap.size+1]?->Xl 170 #[.map (some (w.heap.size+1)),.string (A k).1,Xi (A k).2] p λe w'=>e=.returned (LK.val ⟨(A k).1,(A k).2,Zf A (A k) k⟩)/\Za w' (w.heap.size+1) (Qah (Qbs A k) ⟨(A k).1,(A k).2,0⟩ ((Zf A (A k) k:Int)+1)) (k+1)/\Qx (λb=>b=w.heap.size+1) p w'):=Qa λp af=>by have br:=QgS A (A k) k;exact QkO (w.heap.size+1) (Qbs A k) k (A k).1 (A k).2 (Zf A (A k) k) p (o.out.2.1.heap af) (by omega) B C (Qly A _ _ k) (by omega) (by omega)
   have aN:Hid (∀ f,Za f (w.heap.size+1) (Qah (Qbs A k) ⟨(A k).1,(A k).2,0⟩ ((Zf A (A k) k:Int)+1)) (k+1)->Qx (λb=>b=w.heap.size+1) wr f->∃ w',(Instr.mapUpdate 245 (.map (some w.heap.size)) (.agg #[.string (A k).1,Xi (A k).2,Xi (Zf A (A k) k:Int)]) (Xi k)).run Tryz.prog f=.ok () w'/\Qew A w (k+1) w'):=Qa λf O R=>QrI o.out (by omega) B C O R;have aw:P<wr.heap.size:=Nat.lt_of_lt_of_le a1 h.size;have bf:=a1;clear L M N B C o h;generalize (A k).1=tg at *;generalize (A k).2=r at *;generalize bg:(Zf A (A k) k:Int)=a3 at *;simp only [LK.val] at E;go_wp2_with fail;have s:(λw':World=>Xc w' P 1 (Xi r)/\Xc w' P 2 (.string tg)) wr.drew:=⟨G,H⟩;refine Zm (S:=(λw':World=>w'.cell? (Xa P 1)=some (Xi r)/\w'.cell? (Xa P 2)=some (.string tg))) (by kernel_rfl) ?_;iterate 10
    apply Q0 ?_ s ?_;rotate_left
    ·(intro w' hSw;(try obtain ⟨q0,ag⟩:=hSw);simp only [Xq];go_simp;try (with_reducible rfl))
    simp only [Xq,Xr]
   refine J0 11 ?_;apply JZ ?_ s ?_;rotate_left
   ·(intro w' hSw;(try obtain ⟨q0,ag⟩:=hSw);simp only [Xq];go_simp;try (with_reducible rfl))
   simp only [Xq,Xr];refine Qq 10 ?_;simp only [Xq];go_simp;refine (Qb E wr.drew rfl).mono ?_;rintro e f ⟨rfl,J,d⟩;have d:Qx (λb=>b=w.heap.size+1) wr f:=⟨d.os,d.tape,d.output,d.size,d.block⟩;obtain ⟨bh,bs,aO⟩:=aN.out f J d;have a4:Xc f P 1 (Xi r):=(World.cell?_of_block (d.block P aw (by omega))).trans G;have a5:Xc f P 2 (.string tg):=(World.cell?_of_block (d.block P aw (by omega))).trans H;refine ⟨.inr ⟨a4,a5⟩,?_⟩;have b5:=Qa aO;clear aO J d aN E s;try simp only [Xr]
   refine Qq 12 ?_;simp only [Xq];go_simp;refine ⟨.inl (by kernel_rfl),?_⟩;refine Zk (by kernel_rfl) ?_ _;go_wp2;go_roundw;·exact ⟨k+1,by omega,by go_num,b5⟩
   simp [intOf];omega
  have aS:k=n:=by omega
  subst aS;obtain ⟨O,R,I⟩:=o.out;have aT:w.heap.size+1<wr.heap.size:=R.lt;obtain ⟨b6,aU,ax,F,aV⟩:=R.cleared;have ay:QgU A k a w 0 b6:=by have bi:=I.size;refine ⟨O.heap (F.block _ O.lt (by simp)),ax,⟨F.os.trans I.os,F.tape.trans I.tape,F.output.trans I.output,by omega,λb hb=>(F.block b (by omega) (λe=>by have:=Option.some.inj e;omega)).trans (I.block b hb)⟩⟩
  have az:=Qa ay;clear ay ax F aV O R I o aT;go_wp2;go_loopw [9,11,12,13,42] (λl _ _ _ i wr=>∃ (j:Nat) (q:Value),j<=m/\i=Xi j/\q=l/\Hid (wr.ownsRow w.heap.size 3 1 q j (Qt (J3 A k a j)))/\Hid (QgU A k a w j wr)/\Hid (∀ b,q.ownBlock=some b->b≠w.heap.size/\b≠w.heap.size+1)) (λ_ _ _ _ i _=>m-(intOf i).toNat);·exact ⟨0,_,Nat.zero_le _,rfl,rfl,Qa (World.ownsRow_nil _ _ _ _),az,Qa (λb e=>by cases e)⟩
  case round =>
   obtain ⟨j,q,bt,rfl,rfl,Y,o,a2⟩:=hrel;clear az aU;have h:=o.out.2.2;by_cases a8:j<m
   ·obtain ⟨g,b,u,l,c,aW,ae,a9,L,M,N,B,C,bj⟩:=b3.out j a8;subst aW;have b4:=(Xh h g j ae).trans L;have G:=(Xh h b (u+1) a9).trans M;have H:=(Xh h b (u+2) a9).trans N;have aX:(j:Int)<(m:Int):=by omega
    have bk:=QgS a (a j) j;have aA:(⟨(a j).1,(a j).2,(Zf a (a j) j:Int)⟩:LK).Ok:=⟨B,C,by show Qg (Zf a (a j) j:Int);unfold Qg;omega⟩;have E:Hid (∀ p,p.heap[w.heap.size+1]?=wr.heap[w.heap.size+1]?->Xl 170 #[.map (some (w.heap.size+1)),.string (a j).1,Xi (a j).2] p λe w'=>e=.returned (LK.val ⟨(a j).1,(a j).2,Zf a (a j) j⟩)/\Za w' (w.heap.size+1) (Qbs a (j+1)) (j+1)/\Qx (λb=>b=w.heap.size+1) p w'):=Qa λp af => QkO (w.heap.size+1) (Qbs a j) j (a j).1 (a j).2 (Zf a (a j) j) p (o.out.2.1.heap af) (by omega) B C (Qly a _ _ j) (by omega) (by omega);obtain ⟨pv,y,aa,aB⟩:∃ (pv:Int) (y:Bool),(∀ w',Za w' w.heap.size (J4 A k) k->(Instr.lookup 245 (.map (some w.heap.size)) (.agg #[.string (a j).1,Xi (a j).2,Xi (Zf a (a j) j:Int)]) true).run Tryz.prog w'=.ok (.tuple #[Xi pv,.bool y]) w')/\(if y=true then pv else -1)=Qa8 A k a j:=by refine ⟨_,_,λw' b7=>b7.look2 aA,?_⟩;unfold Qa8;cases J4 A k ⟨(a j).1,(a j).2,(Zf a (a j) j:Int)⟩ with| none=>rfl| some z=>rfl
    have b8:=aa wr o.out.1;have aC:=Qa aa;have aY:=Qa aB;have aD:b<wr.heap.size:=Nat.lt_of_lt_of_le a9 h.size;have bb:w.heap.size+1<wr.heap.size:=o.out.2.1.lt;have ah:=o;have a7:=Y;obtain ⟨T,U,b9⟩:=Qz Y.out;subst b9;clear L M N B C aA aa aB Y o;generalize (a j).1=tg at *;generalize (a j).2=r at *;generalize (Zf a (a j) j:Int)=a3 at *;simp only [LK.val] at E;go_wp2_with fail;have s:(λw':World=>Xc w' b (u+1) (.string tg)/\Xc w' b (u+2) (Xi r)/\(Instr.lookup 245 (.map (some w.heap.size)) (.agg #[.string tg,Xi r,Xi a3]) true).run Tryz.prog w'=.ok (.tuple #[Xi pv,.bool y]) w') wr.drew:=⟨G,H,aC.out wr.drew ah.out.1⟩;refine Zm (S:=(λw':World=>w'.cell? (Xa b (u+1))=some (.string tg)/\w'.cell? (Xa b (u+2))=some (Xi r)/\(Instr.lookup 245 (.map (some w.heap.size)) (.agg #[.string tg,Xi r,Xi a3]) true).run Tryz.prog w'=.ok (.tuple #[Xi pv,.bool y]) w')) (by kernel_rfl) ?_;iterate 10
     apply Q0 ?_ s ?_;rotate_left
     ·(intro w' hSw;(try obtain ⟨q0,ag,ba⟩:=hSw);simp only [Xq];go_simp;try (with_reducible rfl))
     simp only [Xq,Xr]
    refine Qq 10 ?_;simp only [Xq];go_simp;refine (Qb E wr.drew rfl).mono ?_;rintro e f ⟨rfl,J,d⟩;have d:Qx (λb=>b=w.heap.size+1) wr f:=⟨d.os,d.tape,d.output,d.size,d.block⟩;have ab:Za f w.heap.size (J4 A k) k:=ah.out.1.heap (d.block _ (by omega) (by omega));have bl:=d.size;have a4:Xc f b (u+1) (.string tg):=(World.cell?_of_block (d.block b aD (by omega))).trans G;have a5:Xc f b (u+2) (Xi r):=(World.cell?_of_block (d.block b aD (by omega))).trans H;clear s;have s:(λw':World=>Xc w' b (u+1) (.string tg)/\Xc w' b (u+2) (Xi r)/\(Instr.lookup 245 (.map (some w.heap.size)) (.agg #[.string tg,Xi r,Xi a3]) true).run Tryz.prog w'=.ok (.tuple #[Xi pv,.bool y]) w') f:=⟨a4,a5,aC.out f ab⟩;refine ⟨.inr s,?_⟩;have ac:Xb w f:=⟨d.os.trans h.os,d.tape.trans h.tape,d.output.trans h.output,by have:=h.size;omega,λb hb=>(d.block b (by omega) (by omega)).trans (h.block b hb)⟩;have ad:=Qa (show Za f w.heap.size (J4 A k) k/\Za f (w.heap.size+1) (Qbs a (j+1)) (j+1)/\Xb w f from ⟨ab,J,ac⟩);have K:Hid (f.ownsRow w.heap.size 3 1 (.slice T j U) j (Qt (J3 A k a j))):=Qa (QT a7.out λb e=>d.block b (a7.out.lt b e).2 (a2.out b e).2);have bm:=ac.size;clear J d ab E ac a7 ah h G H b8 a4 a5;try simp only [Xr]
    iterate 6
     apply Q0 ?_ s ?_;rotate_left
     ·(intro w' hSw;(try obtain ⟨q0,ag,ba⟩:=hSw);simp only [Xq];go_simp;try (with_reducible rfl))
     simp only [Xq,Xr]
    refine Zk (by kernel_rfl) ?_ _;clear s;have a0:Hid (∀ a6 t x,(if y=true then pv else -1)=a6->Zl (f.alloc (.cells #[Xi a6] 3)) t (.slice T j U) x->t.ownsRow w.heap.size 3 1 x (j+1) (Qt (J3 A k a j)++[Xi a6])->t.ownsRow w.heap.size 3 1 x (j+1) (Qt (J3 A k a (j+1)))/\QgU A k a w (j+1) t/\∀ b,x.ownBlock=some b->b≠w.heap.size/\b≠w.heap.size+1):=Qa λa6 t x aE v D=>by
     obtain ⟨aP,ai,aQ⟩:=ad.out;have aF:∀ b,b<f.heap.size->Value.ownBlock (.slice T j U)≠some b->t.heap[b]?=f.heap[b]?:=λb hb aI=>(v.by.block b (by simp;omega) (λe=>aI e.symm)).trans (Below.heap_alloc _ _ _ hb);refine ⟨?_,⟨aP.heap (aF _ aP.lt (λe=>(a2.out _ e).1 rfl)),ai.heap (aF _ ai.lt (λe=>(a2.out _ e).2 rfl)),?_⟩,λb e=>?_⟩
     ·rw [Qp6,QeQ,<- aY.out,aE];exact D
     ·exact (aQ.alloc aQ.size _).grown v.by (by simp;omega) (λb e=>(K.out.lt b e).1)
     rcases v with ⟨e',_⟩|⟨e',_⟩
     ·rw [e] at e';exact a2.out b e'.symm
     rw [e] at e';have e':=Option.some.inj e';have:=ai.lt;simp at e';omega
    have aE:(Qt (J3 A k a j)).length=j:=by rw [Qap,QhI]
    cases y with
    | true =>
     go_wp2_with ((at_builtin;refine Jf _ rfl (.tmp 63) (.tmp 65) 23 rfl w.heap.size 3 aL (Xi 0) 1 8 Tryz.underlying23 aM ap aq ar rfl (.slice T j U) _ _ rfl (K.out.alloc _) (some (Xa f.heap.size 0)) 1 1 [Xi pv] rfl (by simp) rfl (Z9 _ _ _) (by simp [Value.oneCell']) (by omega) (by omega) (by simp;omega) ?_;intro x t D v _));obtain ⟨V,W,X⟩:=a0.out pv t x rfl v.out D.out;have aj:=Qa V;have ak:=Qa W;have al:=Qa X;clear V W X D v a0 K ad;go_wp2;go_roundw;·exact ⟨j+1,_,by omega,by go_num,rfl,aj,ak,al⟩
     simp [intOf];omega
    | false =>
     go_wp2_with ((at_builtin;refine Jf _ rfl (.tmp 63) (.tmp 65) 23 rfl w.heap.size 3 aL (Xi 0) 1 8 Tryz.underlying23 aM ap aq ar rfl (.slice T j U) _ _ rfl (K.out.alloc _) (some (Xa f.heap.size 0)) 1 1 [Xi (-1)] rfl (by simp) rfl (Z9 _ _ _) (by simp [Value.oneCell']) (by omega) (by omega) (by simp;omega) ?_;intro x t D v _));obtain ⟨V,W,X⟩:=a0.out (-1) t x rfl v.out D.out;have aj:=Qa V;have ak:=Qa W;have al:=Qa X;clear V W X D v a0 K ad;go_wp2;go_roundw;·exact ⟨j+1,_,by omega,by go_num,rfl,aj,ak,al⟩
     simp [intOf];omega
   have aZ:j=m:=by omega
   subst aZ;have aX:¬ (j:Int)<(j:Int):=by omega
   go_wp2;go_ret;exact ⟨_,rfl,Y.out,o.out.2.2⟩
structure NI where
 key:Int
 tag:ByteArray
 text:ByteArray
 ats:List (ByteArray × ByteArray)
 kids:List Int
structure KS where
 pats:List Qn
 stay:List Int
 last:Int
abbrev Br:=Int->NI->Nat->Nat->Int->List Qn × Int
def QaZ (c:Br) (T:Int->NI) (L:Nat->Qd) (id:Int) (b:List Int) (s:Nat) (q:KS) (a:Nat × Nat) (p:Int):KS :=
 bif decide (q.stay.head?=some p) then
  let r:=c (b.getD p.toNat 0) (T (b.getD p.toNat 0)) (s+a.1) (a.2-a.1) q.last
  ⟨q.pats++r.1,q.stay.tail,r.2⟩
 else
  let bf:=match q.stay with
   | []=>0
   | k::_=>b.getD k.toNat 0
  bif p==-1 then
   let r:=c (q.last+1) ⟨(L (s+a.1)).k,(L (s+a.1)).t,(L (s+a.1)).x,[],[]⟩ (s+a.1) (a.2-a.1) (q.last+1)
   ⟨q.pats++[⟨1,q.last+1,0,0,(L (s+a.1)).k,(L (s+a.1)).t,⟨#[]⟩,(L (s+a.1)).x⟩]++[⟨2,q.last+1,id,bf,0,⟨#[]⟩,⟨#[]⟩,⟨#[]⟩⟩]++r.1,q.stay,r.2⟩
  else
   let r:=c (b.getD p.toNat 0) (T (b.getD p.toNat 0)) (s+a.1) (a.2-a.1) q.last
   ⟨q.pats++[⟨2,b.getD p.toNat 0,id,bf,0,⟨#[]⟩,⟨#[]⟩,⟨#[]⟩⟩]++r.1,q.stay,r.2⟩
def Jn (b:Br) (T:Int->NI) (L:Nat->Qd) (id:Int) (a:List Int) (s:Nat) (ps:List (Nat × Nat)) (c:List Int) (q:KS):Nat->KS
 | 0=>q
 | k+1=>QaZ b T L id a s (Jn b T L id a s ps c q k) (ps.getD k (0,0)) (c.getD k 0)
def QD (L:Nat->Qd) (s n:Nat):List (Nat × Nat):=Jg (λi=>(L (s+i)).d) n
def Jb (T:Int->NI) (L:Nat->Qd) (a:List Int) (s:Nat) (ps:List (Nat × Nat)):List Int :=
 J3 (λj=>((T (a.getD j 0)).tag,(T (a.getD j 0)).key)) a.length (λj=>((L (s+(ps.getD j (0,0)).1)).t,(L (s+(ps.getD j (0,0)).1)).k)) ps.length
def ZV (a:List Int):List Int:=Qcv (λj=>(a.filter Ze).getD j 0) (a.filter Ze).length
def Qcb (b:Br) (T:Int->NI) (L:Nat->Qd) (id:Int) (x:NI) (s n:Nat) (last:Int):List Qn × Int :=
 let ps:=QD L s n
 let a:=Jb T L x.kids s ps
 let e:=Jn b T L id x.kids s ps a ⟨ZY (λj=>x.kids.getD j 0) a x.kids.length,ZV a,last⟩ ps.length
 (e.pats,e.last)
def JG (id:Int) (x:NI) (n:Qd):List Qn:=bif x.text.toList==n.x.toList then [] else [⟨6,id,0,0,0,⟨#[]⟩,⟨#[]⟩,n.x⟩]
def QaG (id:Int) (x:NI) (n:Qd):List Qn:=Qas id (Q4 x.ats) n.nm n.an x.ats.length++QaO id (Q4 x.ats) (Zq x.ats) x.ats.length n.nm n.vl n.an
def QaE (T:Int->NI) (L:Nat->Qd):Nat->Br
 | 0=>λ_ _ _ _ last=>([],last)
 | f+1=>λid x s n last =>
  let r:=Qcb (QaE T L f) T L id x s n last
  (JG id x (L s)++QaG id x (L s)++r.1,r.2)
structure Qdr (WB:Nat) (pv:Value) (w:World) (nb:Int->Nat) (N:Nat) (id:Int) (x:NI):Prop where
 free:Zh WB pv w N
 c0:w.cell? (Xa N 0)=some (Xi id)
 c1:w.cell? (Xa N 1)=some (Xi x.key)
 c2:w.cell? (Xa N 2)=some (.string x.tag)
 c3:w.cell? (Xa N 3)=some (.string x.text)
 c4:∃ na nc,w.cell? (Xa N 4)=some (.slice na x.ats.length nc)/\QdC WB pv w na x.ats.length (Q4 x.ats) (Zq x.ats)
 c6:∃ ko kc,w.cell? (Xa N 6)=some (.slice ko x.kids.length kc)/\∀ j,j<x.kids.length->∃ g,ko=some (Xa g 0)/\Zh WB pv w g/\w.cell? (Xa g j)=some (Xp (nb (x.kids.getD j 0)))
structure NI.Ok (x:NI):Prop where
 few:x.ats.length<=5
 names:∀ j,j<x.ats.length->(Q4 x.ats j).size<=1000000
 tag:x.tag.size<=maxLen
 key:Qg x.key
 kids:x.kids.length<=1000
theorem Qdr.tells {WB:Nat} {pv a:Value} {w w':World} {nb:Int->Nat} {b:Nat} {id:Int} {x:NI} (h:Qdr WB pv w nb b id x) (k:QK WB pv a w w'):Qdr WB a w' nb b id x:=by
 refine ⟨h.free.tells k,(h.free.cell k).trans h.c0,(h.free.cell k).trans h.c1,(h.free.cell k).trans h.c2,(h.free.cell k).trans h.c3,?_,?_⟩
 ·obtain ⟨d,nc,e,i⟩:=h.c4;exact ⟨d,nc,(h.free.cell k).trans e,i.tells k⟩
 obtain ⟨l,m,e,n⟩:=h.c6;refine ⟨l,m,(h.free.cell k).trans e,λj o=>?_⟩;obtain ⟨g,p,f,c⟩:=n j o;exact ⟨g,p,f.tells k,(f.cell k).trans c⟩
structure Qbu (WB:Nat) (pv:Value) (w:World) (nb:Int->Nat) (S:Int->Prop) (T:Int->NI):Prop where
 node:∀ i,S i->Qdr WB pv w nb (nb i) i (T i)
 kids:∀ i,S i->∀ k,k ∈ (T i).kids->S k
 ok:∀ i,S i->(T i).Ok
theorem Qbu.tells {WB:Nat} {pv a:Value} {w w':World} {nb:Int->Nat} {S:Int->Prop} {T:Int->NI} (h:Qbu WB pv w nb S T) (k:QK WB pv a w w'):Qbu WB a w' nb S T:=⟨λi b=>(h.node i b).tells k,h.kids,h.ok⟩
structure QaW (WB:Nat) (pv:Value) (w:World) (b o n:Nat) (L:Nat->Qd):Prop where
 free:Zh WB pv w b
 node:∀ i,i<n->QeY w b (o+i*5) (L i)
 attrs:∀ i,i<n->QdC WB pv w (L i).ao (L i).an (L i).nm (L i).vl
theorem QaW.tells {WB:Nat} {pv d:Value} {w w':World} {b f n:Nat} {L:Nat->Qd} (h:QaW WB pv w b f n L) (k:QK WB pv d w w'):QaW WB d w' b f n L:=by refine ⟨h.free.tells k,λi c=>?_,λi c=>(h.attrs i c).tells k⟩;have a:=h.node i c;exact ⟨(h.free.cell k).trans a.c0,(h.free.cell k).trans a.c1,(h.free.cell k).trans a.c2,(h.free.cell k).trans a.c3,(h.free.cell k).trans a.c4,⟨a.ok.an,a.ok.t,a.ok.x,((h.attrs i c).tells k).at_⟩⟩
structure Qd.Small (n:Qd):Prop where
 an:n.an<=5
 ats:∀ j,j<n.an->(n.nm j).size<=1000000/\(n.vl j).size<=1000000
 tag:n.t.size<=1000000
 text:n.x.size<=1000000
 key:Qg n.k
 dep:0<=n.d/\n.d<=1000
end Go.Proofs.YtobgcaemnpkbmaaGreatDoor
