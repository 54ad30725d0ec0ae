import Derived.Test.YtobgcaemnpkbmaaGreatY18
namespace Go.Proofs.YtobgcaemnpkbmaaGreat
set_option maxRecDepth 100000
set_option maxHeartbeats 8000000
open Go.RowKit List
variable {id last:Int} {nb:Int->Nat} {ps:List (Nat × Nat)} {pr:List Int} {P:List Qh} {xs:List Value} {B C N WB b c f i j k m mb n o pc s size:Nat} {A:Nat->ByteArray × Int} {L:Nat->Qd} {ao ko po so:Option Addr} {e:TypeId} {pv:Value} {w w1 wr:World}
open Go.ChangeMaps (setBlock heap_setBlock_same)
def Q5 (A:Nat->ByteArray × Int) (x:ByteArray × Int):Nat->Nat
 | 0=>0
 | i+1=>Q5 A x i+(if A i=x then 1 else 0)
theorem QhN (A:Nat->ByteArray × Int) (x:ByteArray × Int):∀ i,Q5 A x i<=i:=by intro i;induction i with| zero=>exact X0| succ i ih=>rw [Q5];split<;>omega
def QbW (A:Nat->ByteArray × Int):Nat->LK->Option Int
 | 0=>λ_=>none
 | i+1=>QaY (QbW A i) ⟨(A i).1,(A i).2,0⟩ ((Q5 A (A i) i:Int)+1)
theorem QmQ (A:Nat->ByteArray × Int) (t:ByteArray) (k:Int):∀ i,(QbW A i ⟨t,k,0⟩).getD 0=(Q5 A (t,k) i:Int):=by
 intro i;induction i with
 | zero=>rfl
 | succ i ih =>
  rw [QbW,Q5];unfold QaY;by_cases e:A i=(t,k)
  ·have a:(A i).1=t:=by rw [e]
   have b:(A i).2=k:=by rw [e]
   rw [if_pos (by rw [a,b]),if_pos e,e];simp
  rw [if_neg (λc=>by injection c with h1 h2;exact e (Prod.ext h1.symm h2.symm)),if_neg e,ih];simp
def QaT (A:Nat->ByteArray × Int):Nat->LK->Option Int
 | 0=>λ_=>none
 | i+1=>QaY (QaT A i) ⟨(A i).1,(A i).2,Q5 A (A i) i⟩ i
theorem Qp1 (A:Nat->ByteArray × Int) (x:LK):∀ i v,QaT A i x=some v->0<=v/\v<(i:Int):=by
 intro i;induction i with
 | zero=>intro v a;cases a
 | succ i ih =>
  intro v a;rw [QaT] at a;unfold QaY at a;split at a
  ·cases a;omega
  have:=ih v a;omega
def Qa8 (A:Nat->ByteArray × Int) (n:Nat) (B:Nat->ByteArray × Int) (j:Nat):Int:=(QaT A n ⟨(B j).1,(B j).2,Q5 B (B j) j⟩).getD (-1)
def QaJ (A:Nat->ByteArray × Int) (n:Nat) (B:Nat->ByteArray × Int) (m:Nat):List Int:=(List.range m).map (Qa8 A n B)
theorem Qvq (A:Nat->ByteArray × Int) (n:Nat) (B:Nat->ByteArray × Int) (m:Nat):QaJ A n B (m+1)=QaJ A n B m++[Qa8 A n B m]:=by unfold QaJ;rw [range_succ,map_append];rfl
theorem QhE (A:Nat->ByteArray × Int) (n:Nat) (B:Nat->ByteArray × Int) (m:Nat):(QaJ A n B m).length=m:=by unfold QaJ;simp
theorem Zt.cleared {f:LK->Option Int} (g:Zt w mb f N) : ∃ w',(∀ ty,(Builtin.clear_ #[190] ty #[.map (some mb)]).run Tryz.prog w=.ok (.tuple #[]) w')/\Zt w' mb (λ_=>none) 0/\w.grownBy w' (some mb)/\w'.heap.size=w.heap.size:=by
 obtain ⟨D,⟨d,a,b,F,h,i⟩,j⟩:=g;refine ⟨setBlock w mb (.map #[] a),?_,?_,World.mapTurned.grown ⟨d,a,#[],a,b,rfl⟩,by simp [setBlock]⟩
 ·intro ty;simp [Builtin.clear_,run_underlying Tryz.underlying190,MapKept.run_getObj_map b,MapKept.run_setObj_map _ b,Result.andThen,setBlock]
 refine ⟨.map [],⟨#[],a,heap_setBlock_same b _,?_,by simp,rfl⟩,λx _=>⟨rfl,rfl⟩⟩;exact ⟨X3,⟨λx c=>by simp at c,by simp,by simp⟩,λx c=>by simp at c⟩
def Qnm (w:World) (a:Option Addr) (n:Nat) (A:Nat->ByteArray × Int):Prop :=
 ∀ j,j<n->∃ g P,a=some (Xa g 0)/\g<w.heap.size/\P<w.heap.size/\w.cell? (Xa g j)=some (Xp P)/\w.cell? (Xa P 1)=some (Xi (A j).2)/\w.cell? (Xa P 2)=some (.string (A j).1)/\(A j).1.size<=maxLen/\Qu (A j).2
def QhY (w:World) (d:Option Addr) (m:Nat) (B:Nat->ByteArray × Int):Prop :=
 ∀ j,j<m->∃ g b a l c,d=some (Xa g 0)/\g<w.heap.size/\b<w.heap.size/\w.cell? (Xa g j)=some (.slice (some (Xa b a)) (l+1) c)/\w.cell? (Xa b (a+1))=some (.string (B j).1)/\w.cell? (Xa b (a+2))=some (Xi (B j).2)/\(B j).1.size<=maxLen/\Qu (B j).2/\l<=1000000
def QfT (A:Nat->ByteArray × Int) (w:World) (i:Nat) (wr:World):Prop:=Zt wr w.heap.size (QaT A i) i/\Zt wr (w.heap.size+1) (QbW A i) i/\Xb w wr
def Qjf (A:Nat->ByteArray × Int) (n:Nat) (B:Nat->ByteArray × Int) (w:World) (j:Nat) (wr:World):Prop:=Zt wr w.heap.size (QaT A n) n/\Zt wr (w.heap.size+1) (QbW B j) j/\Xb w wr
theorem QuX {f:World} (p:QfT A w i wr) (s:i<1000000) (k:(A i).1.size<=maxLen) (l:Qu (A i).2) (g:Zt f (w.heap.size+1) (QaY (QbW A i) ⟨(A i).1,(A i).2,0⟩ ((Q5 A (A i) i:Int)+1)) (i+1)) (a:Qi (λb=>b=w.heap.size+1) wr f) : ∃ w',(Instr.mapUpdate 190 (.map (some w.heap.size)) (.agg #[.string (A i).1,Xi (A i).2,Xi (Q5 A (A i) i:Int)]) (Xi i)).run Tryz.prog f=.ok () w'/\QfT A w (i+1) w':=by
 obtain ⟨h,t,c⟩:=p;have m:Zt f w.heap.size (QaT A i) i:=h.heap (a.block _ h.lt (by omega));have u:=QhN A (A i) i;obtain ⟨w',n,j,d,v⟩:=m.update (by unfold maxLen;omega) (x:=⟨(A i).1,(A i).2,(Q5 A (A i) i:Int)⟩) ⟨k,l,by show Qu (Q5 A (A i) i:Int);unfold Qu;omega⟩ i;refine ⟨w',n,j,g.heap (d.block _ g.lt (by simp)),⟨d.os.trans (a.os.trans c.os),d.tape.trans (a.tape.trans c.tape),d.output.trans (a.output.trans c.output),?_,λb o=>?_⟩⟩
 ·have:=a.size;have:=c.size;omega
 have q:=c.size;have r:=a.size;exact (d.block b (by omega) (λe=>by have:=Xb5 e;omega)).trans ((a.block b (by omega) (by omega)).trans (c.block b o))
theorem Qp3 (N:Nat) (aG:Option Addr) (n b0:Nat) A aH (m b1:Nat) B (w:World) (bm:N<w.heap.size) (aI:n<1000000) (bn:m<1000000) (bo:Xc w N 6 (.slice aG n b0)) (aJ:Qnm w aG n A) (aK:QhY w aH m B) : Xl 112 #[Xp N,.slice aH m b1] w λe w'=>∃ q,e=.returned q/\w'.ownsRow w.heap.size 3 1 q m (Qs (QaJ A n B m))/\Xb w w':=by
 obtain ⟨aL,aM,ap,aq,ar⟩:=info_parts QbF;have bb:∀ w1:World,(Instr.makeMap 190 none).run Tryz.prog w1=.ok (.map (some w1.heap.size)) (w1.alloc (.map #[] 0)):=λw1=>run_makeMap _ w1;have b2:=Qa aJ;have b3:=Qa aK;clear aJ aK;go_enter Tryz.func112,Tryz.ntmps112;go_wp2_with fail;have au:QfT A w 0 ((w.alloc (.map #[] 0)).alloc (.map #[] 0)):=by
  refine ⟨(Zt.made w).heap ?_,?_,Xn⟩
  ·exact Xc1 _ _ _ (by simp)
  have:=Zt.made (w.alloc (.map #[] 0));rw [World.size_alloc] at this;exact this
 have av:=Qa au;clear au;go_loopw [7,8,21] (λ_ _ i wr=>∃ k:Nat,k<=n/\i=Xi k/\Hid (QfT A w k wr)) (λ_ _ i _=>n-(intOf i).toNat);·exact ⟨0,X3,rfl,av⟩
 case round =>
  obtain ⟨k,bp,rfl,h⟩:=hrel;clear av;have f:=h.out.2.2;by_cases aa:k<n
  ·obtain ⟨g,P,aR,ag,a3,L,M,O,z,C⟩:=b2.out k aa;subst aR;have b4:=(Xh f g k ag).trans L;have G:=(Xh f P 1 a3).trans M;have H:=(Xh f P 2 a3).trans O;have bc:(k:Int)<(n:Int):=by omega
   have E:Hid (∀ o,o.heap[w.heap.size+1]?=wr.heap[w.heap.size+1]?->Xl 128 #[.map (some (w.heap.size+1)),.string (A k).1,Xi (A k).2] o λe w'=>e=.returned (LK.val ⟨(A k).1,(A k).2,Q5 A (A k) k⟩)/\Zt w' (w.heap.size+1) (QaY (QbW A k) ⟨(A k).1,(A k).2,0⟩ ((Q5 A (A k) k:Int)+1)) (k+1)/\Qi (λb=>b=w.heap.size+1) o w'):=Qa λo ah=>by have bq:=QhN A (A k) k;exact QmG (w.heap.size+1) (QbW A k) k (A k).1 (A k).2 (Q5 A (A k) k) o (h.out.2.1.heap ah) (by omega) z C (QmQ A _ _ k) (by omega) (by omega)
   have aN:Hid (∀ d,Zt d (w.heap.size+1) (QaY (QbW A k) ⟨(A k).1,(A k).2,0⟩ ((Q5 A (A k) k:Int)+1)) (k+1)->Qi (λb=>b=w.heap.size+1) wr d->∃ w',(Instr.mapUpdate 190 (.map (some w.heap.size)) (.agg #[.string (A k).1,Xi (A k).2,Xi (Q5 A (A k) k:Int)]) (Xi k)).run Tryz.prog d=.ok () w'/\QfT A w (k+1) w'):=Qa λd R T=>QuX h.out (by omega) z C R T;have aw:P<wr.heap.size:=Xb4 a3 f.size;have bd:=a3;clear L M O z C h f;generalize (A k).1=p at *;generalize (A k).2=r at *;generalize bf:(Q5 A (A k) k:Int)=a5 at *;simp only [LK.val] at E;go_wp2_with fail;have s:(λw':World=>Xc w' P 1 (Xi r)/\Xc w' P 2 (.string p)) wr.drew:=⟨G,H⟩;refine ZU (S:=(λw':World=>w'.cell? (Xa P 1)=some (Xi r)/\w'.cell? (Xa P 2)=some (.string p))) (by kernel_rfl) ?_;iterate 10
    apply Qbz ?_ s ?_;rotate_left
    ·(intro w' hSw;(try obtain ⟨q0,q1⟩:=hSw);simp only [Xq];go_simp;try (with_reducible rfl))
    simp only [Xq,Xr]
   refine J9 11 ?_;apply Qbh ?_ s ?_;rotate_left
   ·(intro w' hSw;(try obtain ⟨q0,q1⟩:=hSw);simp only [Xq];go_simp;try (with_reducible rfl))
   simp only [Xq,Xr];refine Qbe 10 ?_;simp only [Xq];go_simp;refine (Qb E wr.drew rfl).mono ?_;rintro e d ⟨rfl,J,a⟩;have a:Qi (λb=>b=w.heap.size+1) wr d:=⟨a.os,a.tape,a.output,a.size,a.block⟩;obtain ⟨bg,br,aO⟩:=aN.out d J a;have a6:Xc d P 1 (Xi r):=(Xb3 (a.block P aw (by omega))).trans G;have a7:Xc d P 2 (.string p):=(Xb3 (a.block P aw (by omega))).trans H;refine ⟨.inr ⟨a6,a7⟩,?_⟩;have b5:=Qa aO;clear aO J a aN E s;try simp only [Xr]
   refine Qbe 12 ?_;simp only [Xq];go_simp;refine ⟨.inl (by kernel_rfl),?_⟩;refine ZP (by kernel_rfl) ?_ _;go_wp2;go_roundw;·exact ⟨k+1,by omega,by go_num,b5⟩
   simp [intOf];omega
  have aS:k=n:=by omega
  subst aS;obtain ⟨R,T,I⟩:=h.out;have aT:w.heap.size+1<wr.heap.size:=T.lt;obtain ⟨b6,aU,ax,F,aV⟩:=T.cleared;have ay:Qjf A k B w 0 b6:=by have bh:=I.size;refine ⟨R.heap (F.block _ R.lt (by simp)),ax,⟨F.os.trans I.os,F.tape.trans I.tape,F.output.trans I.output,by omega,λb U=>(F.block b (by omega) (λe=>by have:=Xb5 e;omega)).trans (I.block b U)⟩⟩
  have az:=Qa ay;clear ay ax F aV R T I h aT;go_wp2;go_loopw [9,11,12,13,42] (λl _ _ _ i wr=>∃ (j:Nat) (q:Value),j<=m/\i=Xi j/\q=l/\Hid (wr.ownsRow w.heap.size 3 1 q j (Qs (QaJ A k B j)))/\Hid (Qjf A k B w j wr)/\Hid (∀ b,q.ownBlock=some b->b≠w.heap.size/\b≠w.heap.size+1)) (λ_ _ _ _ i _=>m-(intOf i).toNat);·exact ⟨0,_,X3,rfl,rfl,Qa (Xc0 _ _ _ _),az,Qa (λb e=>by cases e)⟩
  case round =>
   obtain ⟨j,q,bs,rfl,rfl,a1,h,a4⟩:=hrel;clear az aU;have f:=h.out.2.2;by_cases aa:j<m
   ·obtain ⟨g,b,u,l,c,aW,ag,ab,L,M,O,z,C,bi⟩:=b3.out j aa;subst aW;have b4:=(Xh f g j ag).trans L;have G:=(Xh f b (u+1) ab).trans M;have H:=(Xh f b (u+2) ab).trans O;have aX:(j:Int)<(m:Int):=by omega
    have bj:=QhN B (B j) j;have aA:(⟨(B j).1,(B j).2,(Q5 B (B j) j:Int)⟩:LK).Ok:=⟨z,C,by show Qu (Q5 B (B j) j:Int);unfold Qu;omega⟩;have E:Hid (∀ o,o.heap[w.heap.size+1]?=wr.heap[w.heap.size+1]?->Xl 128 #[.map (some (w.heap.size+1)),.string (B j).1,Xi (B j).2] o λe w'=>e=.returned (LK.val ⟨(B j).1,(B j).2,Q5 B (B j) j⟩)/\Zt w' (w.heap.size+1) (QbW B (j+1)) (j+1)/\Qi (λb=>b=w.heap.size+1) o w'):=Qa λo ah => QmG (w.heap.size+1) (QbW B j) j (B j).1 (B j).2 (Q5 B (B j) j) o (h.out.2.1.heap ah) (by omega) z C (QmQ B _ _ j) (by omega) (by omega);obtain ⟨pv,y,ac,aB⟩:∃ (pv:Int) (y:Bool),(∀ w',Zt w' w.heap.size (QaT A k) k->(Instr.lookup 190 (.map (some w.heap.size)) (.agg #[.string (B j).1,Xi (B j).2,Xi (Q5 B (B j) j:Int)]) true).run Tryz.prog w'=.ok (.tuple #[Xi pv,.bool y]) w')/\(if y=true then pv else -1)=Qa8 A k B j:=by refine ⟨_,_,λw' b7=>b7.look2 aA,?_⟩;unfold Qa8;cases QaT A k ⟨(B j).1,(B j).2,(Q5 B (B j) j:Int)⟩ with| none=>rfl| some bt=>rfl
    have b8:=ac wr h.out.1;have aC:=Qa ac;have aY:=Qa aB;have aD:b<wr.heap.size:=Xb4 ab f.size;have ba:w.heap.size+1<wr.heap.size:=h.out.2.1.lt;have ai:=h;have a9:=a1;obtain ⟨V,W,b9⟩:=Qy a1.out;subst b9;clear L M O z C aA ac aB a1 h;generalize (B j).1=p at *;generalize (B j).2=r at *;generalize (Q5 B (B j) j:Int)=a5 at *;simp only [LK.val] at E;go_wp2_with fail;have s:(λw':World=>Xc w' b (u+1) (.string p)/\Xc w' b (u+2) (Xi r)/\(Instr.lookup 190 (.map (some w.heap.size)) (.agg #[.string p,Xi r,Xi a5]) true).run Tryz.prog w'=.ok (.tuple #[Xi pv,.bool y]) w') wr.drew:=⟨G,H,aC.out wr.drew ai.out.1⟩;refine ZU (S:=(λw':World=>w'.cell? (Xa b (u+1))=some (.string p)/\w'.cell? (Xa b (u+2))=some (Xi r)/\(Instr.lookup 190 (.map (some w.heap.size)) (.agg #[.string p,Xi r,Xi a5]) true).run Tryz.prog w'=.ok (.tuple #[Xi pv,.bool y]) w')) (by kernel_rfl) ?_;iterate 10
     apply Qbz ?_ s ?_;rotate_left
     ·(intro w' hSw;(try obtain ⟨q0,q1,q2⟩:=hSw);simp only [Xq];go_simp;try (with_reducible rfl))
     simp only [Xq,Xr]
    refine Qbe 10 ?_;simp only [Xq];go_simp;refine (Qb E wr.drew rfl).mono ?_;rintro e d ⟨rfl,J,a⟩;have a:Qi (λb=>b=w.heap.size+1) wr d:=⟨a.os,a.tape,a.output,a.size,a.block⟩;have ad:Zt d w.heap.size (QaT A k) k:=ai.out.1.heap (a.block _ (by omega) (by omega));have bk:=a.size;have a6:Xc d b (u+1) (.string p):=(Xb3 (a.block b aD (by omega))).trans G;have a7:Xc d b (u+2) (Xi r):=(Xb3 (a.block b aD (by omega))).trans H;clear s;have s:(λw':World=>Xc w' b (u+1) (.string p)/\Xc w' b (u+2) (Xi r)/\(Instr.lookup 190 (.map (some w.heap.size)) (.agg #[.string p,Xi r,Xi a5]) true).run Tryz.prog w'=.ok (.tuple #[Xi pv,.bool y]) w') d:=⟨a6,a7,aC.out d ad⟩;refine ⟨.inr s,?_⟩;have ae:Xb w d:=⟨a.os.trans f.os,a.tape.trans f.tape,a.output.trans f.output,by have:=f.size;omega,λb U=>(a.block b (by omega) (by omega)).trans (f.block b U)⟩;have af:=Qa (show Zt d w.heap.size (QaT A k) k/\Zt d (w.heap.size+1) (QbW B (j+1)) (j+1)/\Xb w d from ⟨ad,J,ae⟩);have K:Hid (d.ownsRow w.heap.size 3 1 (.slice V j W) j (Qs (QaJ A k B j))):=Qa (Q8 a9.out λb e=>a.block b (a9.out.lt b e).2 (a4.out b e).2);have bl:=ae.size;clear J a ad E ae a9 ai f G H b8 a6 a7;try simp only [Xr]
    iterate 6
     apply Qbz ?_ s ?_;rotate_left
     ·(intro w' hSw;(try obtain ⟨q0,q1,q2⟩:=hSw);simp only [Xq];go_simp;try (with_reducible rfl))
     simp only [Xq,Xr]
    refine ZP (by kernel_rfl) ?_ _;clear s;have a2:Hid (∀ a8 t x,(if y=true then pv else -1)=a8->ZV (d.alloc (.cells #[Xi a8] 3)) t (.slice V j W) x->t.ownsRow w.heap.size 3 1 x (j+1) (Qs (QaJ A k B j)++[Xi a8])->t.ownsRow w.heap.size 3 1 x (j+1) (Qs (QaJ A k B (j+1)))/\Qjf A k B w (j+1) t/\∀ b,x.ownBlock=some b->b≠w.heap.size/\b≠w.heap.size+1):=Qa λa8 t x aE v D=>by
     obtain ⟨aP,aj,aQ⟩:=af.out;have aF:∀ b,b<d.heap.size->Value.ownBlock (.slice V j W)≠some b->t.heap[b]?=d.heap[b]?:=λb U aI=>(v.by.block b (by simp;omega) (λe=>aI e.symm)).trans (Xc1 _ _ _ U);refine ⟨?_,⟨aP.heap (aF _ aP.lt (λe=>(a4.out _ e).1 rfl)),aj.heap (aF _ aj.lt (λe=>(a4.out _ e).2 rfl)),?_⟩,λb e=>?_⟩
     ·rw [Qvq,QcR,<- aY.out,aE];exact D
     ·exact (aQ.alloc aQ.size _).grown v.by (by simp;omega) (λb e=>(K.out.lt b e).1)
     rcases v with ⟨e',_⟩|⟨e',_⟩
     ·rw [e] at e';exact a4.out b e'.symm
     rw [e] at e';have e':=Xb5 e';have:=aj.lt;simp at e';omega
    have aE:(Qs (QaJ A k B j)).length=j:=by rw [QaR,QhE]
    cases y with
    | true =>
     go_wp2_with ((at_builtin;refine Zp _ rfl (.tmp 63) (.tmp 65) 69 rfl w.heap.size 3 aL (Xi 0) 1 8 Tryz.underlying69 aM ap aq ar rfl (.slice V j W) _ _ rfl (K.out.alloc _) (some (Xa d.heap.size 0)) 1 1 [Xi pv] rfl (by simp) rfl (Q3 _ _ _) (by simp [Value.oneCell']) (by omega) (by omega) (by simp;omega) ?_;intro x t D v _));obtain ⟨X,Y,a0⟩:=a2.out pv t x rfl v.out D.out;have ak:=Qa X;have al:=Qa Y;have ao:=Qa a0;clear X Y a0 D v a2 K af;go_wp2;go_roundw;·exact ⟨j+1,_,by omega,by go_num,rfl,ak,al,ao⟩
     simp [intOf];omega
    | false =>
     go_wp2_with ((at_builtin;refine Zp _ rfl (.tmp 63) (.tmp 65) 69 rfl w.heap.size 3 aL (Xi 0) 1 8 Tryz.underlying69 aM ap aq ar rfl (.slice V j W) _ _ rfl (K.out.alloc _) (some (Xa d.heap.size 0)) 1 1 [Xi (-1)] rfl (by simp) rfl (Q3 _ _ _) (by simp [Value.oneCell']) (by omega) (by omega) (by simp;omega) ?_;intro x t D v _));obtain ⟨X,Y,a0⟩:=a2.out (-1) t x rfl v.out D.out;have ak:=Qa X;have al:=Qa Y;have ao:=Qa a0;clear X Y a0 D v a2 K af;go_wp2;go_roundw;·exact ⟨j+1,_,by omega,by go_num,rfl,ak,al,ao⟩
     simp [intOf];omega
   have aZ:j=m:=by omega
   subst aZ;have aX:¬ (j:Int)<(j:Int):=by omega
   go_wp2;go_ret;exact ⟨_,rfl,a1.out,h.out.2.2⟩
structure NI where
 key:Int
 tag:ByteArray
 text:ByteArray
 ats:List (ByteArray × ByteArray)
 kids:List Int
structure KS where
 pats:List Qh
 stay:List Int
 last:Int
abbrev Br:=Int->NI->Nat->Nat->Int->List Qh × Int
def Qbk (br:Br) (T:Int->NI) (L:Nat->Qd) (id:Int) (b:List Int) (s:Nat) (q:KS) (a:Nat × Nat) (p:Int):KS :=
 bif decide (q.stay.head?=some p) then
  let r:=br (b.getD p.toNat 0) (T (b.getD p.toNat 0)) (s+a.1) (a.2-a.1) q.last
  ⟨q.pats++r.1,q.stay.tail,r.2⟩
 else
  let bf:=match q.stay with
   | []=>0
   | k::_=>b.getD k.toNat 0
  bif p==-1 then
   let r:=br (q.last+1) ⟨(L (s+a.1)).k,(L (s+a.1)).t,(L (s+a.1)).x,[],[]⟩ (s+a.1) (a.2-a.1) (q.last+1)
   ⟨q.pats++[⟨1,q.last+1,0,0,(L (s+a.1)).k,(L (s+a.1)).t,⟨#[]⟩,(L (s+a.1)).x⟩]++[⟨2,q.last+1,id,bf,0,⟨#[]⟩,⟨#[]⟩,⟨#[]⟩⟩]++r.1,q.stay,r.2⟩
  else
   let r:=br (b.getD p.toNat 0) (T (b.getD p.toNat 0)) (s+a.1) (a.2-a.1) q.last
   ⟨q.pats++[⟨2,b.getD p.toNat 0,id,bf,0,⟨#[]⟩,⟨#[]⟩,⟨#[]⟩⟩]++r.1,q.stay,r.2⟩
def Zq (br:Br) (T:Int->NI) (L:Nat->Qd) (id:Int) (a:List Int) (s:Nat) (ps:List (Nat × Nat)) (pr:List Int) (q:KS):Nat->KS
 | 0=>q
 | k+1=>Qbk br T L id a s (Zq br T L id a s ps pr q k) (ps.getD k (0,0)) (pr.getD k 0)
def Qe (L:Nat->Qd) (s n:Nat):List (Nat × Nat):=JD (λi=>(L (s+i)).d) n
def QE (T:Int->NI) (L:Nat->Qd) (a:List Int) (s:Nat) (ps:List (Nat × Nat)):List Int :=
 QaJ (λj=>((T (a.getD j 0)).tag,(T (a.getD j 0)).key)) a.length (λj=>((L (s+(ps.getD j (0,0)).1)).t,(L (s+(ps.getD j (0,0)).1)).k)) ps.length
def Q4 (pr:List Int):List Int:=QbE (λj=>(pr.filter QL).getD j 0) (pr.filter QL).length
def Qad (br:Br) (T:Int->NI) (L:Nat->Qd) (id:Int) (x:NI) (s n:Nat) (last:Int):List Qh × Int :=
 let ps:=Qe L s n
 let pr:=QE T L x.kids s ps
 let e:=Zq br T L id x.kids s ps pr ⟨ZK (λj=>x.kids.getD j 0) pr x.kids.length,Q4 pr,last⟩ ps.length
 (e.pats,e.last)
def Jo (id:Int) (x:NI) (n:Qd):List Qh:=bif x.text.toList==n.x.toList then [] else [⟨6,id,0,0,0,⟨#[]⟩,⟨#[]⟩,n.x⟩]
def JR (id:Int) (x:NI) (n:Qd):List Qh:=Qav id (QP x.ats) n.nm n.an x.ats.length++QaX id (QP x.ats) (Q6 x.ats) x.ats.length n.nm n.vl n.an
def ZE (T:Int->NI) (L:Nat->Qd):Nat->Br
 | 0=>λ_ _ _ _ last=>([],last)
 | f+1=>λid x s n last =>
  let r:=Qad (ZE T L f) T L id x s n last
  (Jo id x (L s)++JR id x (L s)++r.1,r.2)
structure QdO (WB:Nat) (pv:Value) (w:World) (nb:Int->Nat) (N:Nat) (id:Int) (x:NI):Prop where
 free:ZB WB pv w N
 c0:w.cell? (Xa N 0)=some (Xi id)
 c1:w.cell? (Xa N 1)=some (Xi x.key)
 c2:w.cell? (Xa N 2)=some (.string x.tag)
 c3:w.cell? (Xa N 3)=some (.string x.text)
 c4:∃ na nc,w.cell? (Xa N 4)=some (.slice na x.ats.length nc)/\QdX WB pv w na x.ats.length (QP x.ats) (Q6 x.ats)
 c6:∃ ko kc,w.cell? (Xa N 6)=some (.slice ko x.kids.length kc)/\∀ j,j<x.kids.length->∃ g,ko=some (Xa g 0)/\ZB WB pv w g/\w.cell? (Xa g j)=some (Xp (nb (x.kids.getD j 0)))
structure NI.Ok (x:NI):Prop where
 few:x.ats.length<=5
 names:∀ j,j<x.ats.length->(QP x.ats j).size<=1000000
 tag:x.tag.size<=maxLen
 key:Qu x.key
 kids:x.kids.length<=1000
theorem QdO.tells {WB:Nat} {pv b:Value} {w w':World} {nb:Int->Nat} {N:Nat} {id:Int} {x:NI} (a:QdO WB pv w nb N id x) (k:QT WB pv b w w'):QdO WB b w' nb N id x:=by
 refine ⟨a.free.tells k,(a.free.cell k).trans a.c0,(a.free.cell k).trans a.c1,(a.free.cell k).trans a.c2,(a.free.cell k).trans a.c3,?_,?_⟩
 ·obtain ⟨d,h,e,i⟩:=a.c4;exact ⟨d,h,(a.free.cell k).trans e,i.tells k⟩
 obtain ⟨l,m,e,n⟩:=a.c6;refine ⟨l,m,(a.free.cell k).trans e,λj o=>?_⟩;obtain ⟨g,p,f,c⟩:=n j o;exact ⟨g,p,f.tells k,(f.cell k).trans c⟩
structure Qb5 (WB:Nat) (pv:Value) (w:World) (nb:Int->Nat) (S:Int->Prop) (T:Int->NI):Prop where
 node:∀ i,S i->QdO WB pv w nb (nb i) i (T i)
 kids:∀ i,S i->∀ k,k ∈ (T i).kids->S k
 ok:∀ i,S i->(T i).Ok
theorem Qb5.tells {WB:Nat} {pv b:Value} {w w':World} {nb:Int->Nat} {S:Int->Prop} {T:Int->NI} (a:Qb5 WB pv w nb S T) (k:QT WB pv b w w'):Qb5 WB b w' nb S T:=⟨λi c=>(a.node i c).tells k,a.kids,a.ok⟩
structure Qbj (WB:Nat) (pv:Value) (w:World) (b o n:Nat) (L:Nat->Qd):Prop where
 free:ZB WB pv w b
 node:∀ i,i<n->Qd8 w b (o+i*5) (L i)
 attrs:∀ i,i<n->QdX WB pv w (L i).ao (L i).an (L i).nm (L i).vl
theorem Qbj.tells {WB:Nat} {pv f:Value} {w w':World} {b g n:Nat} {L:Nat->Qd} (a:Qbj WB pv w b g n L) (k:QT WB pv f w w'):Qbj WB f w' b g n L:=by refine ⟨a.free.tells k,λi d=>?_,λi d=>(a.attrs i d).tells k⟩;have c:=a.node i d;exact ⟨(a.free.cell k).trans c.c0,(a.free.cell k).trans c.c1,(a.free.cell k).trans c.c2,(a.free.cell k).trans c.c3,(a.free.cell k).trans c.c4,⟨c.ok.an,c.ok.t,c.ok.x,((a.attrs i d).tells k).at_⟩⟩
structure Qd.Small (n:Qd):Prop where
 an:n.an<=5
 ats:∀ j,j<n.an->(n.nm j).size<=1000000/\(n.vl j).size<=1000000
 tag:n.t.size<=1000000
 text:n.x.size<=1000000
 key:Qu n.k
 dep:0<=n.d/\n.d<=1000
def Qb3 (B WB:Nat) (pv:Value) (P:List Qh) (w:World) (r:List Qh × Int) (e:Ending) (w':World):Prop:=e=.returned (.tuple #[])/\∃ a,Zl B w' WB a (P++r.1) r.2/\QT WB pv a w w'
theorem QgY {x:NI} {n:Qd} (a:(x.text.toList==n.x.toList)=true):Jo id x n=[]:=by simp only [Jo,a,cond_true]
theorem Qji {x:NI} {n:Qd} (a:(x.text.toList==n.x.toList)=false):Jo id x n=[⟨6,id,0,0,0,⟨#[]⟩,⟨#[]⟩,n.x⟩]:=by simp only [Jo,a,cond_false]
theorem Qh1 (id:Int) (x:NI) (n:Qd):(Jo id x n).length<=1:=by unfold Jo;cases (x.text.toList==n.x.toList)<;>simp
theorem QuQ B WB pv P last w (al:Zl B w WB pv P last) (ah:B<=w.heap.size) (aC:P.length<=800000) nb N id x (z:QdO WB pv w nb N id x) (a1:x.Ok) (b h n c:Nat) L (l:1<=n) (aw:n<=c) (aq:n<=100000) (v:Qbj WB pv w b h n L) (K:∀ i,i<n->(L i).Small) (r:List Qh × Int) (ai:∀ f w1 q m y C,Zl B w1 WB f (P++Jo id x (L 0)++JR id x (L 0)) last->QT WB pv f w w1->w1.ownsRow C 24 1 (.slice q m y) m (QaZ b h c (JD (λi=>(L i).d) n))->m=(JD (λi=>(L i).d) n).length->(∀ g,Value.ownBlock (.slice q m y)=some g->ZB WB f w1 g)->Xl 94 #[Xp WB,Xp N,.slice q m y] w1 (Qb3 B WB f (P++Jo id x (L 0)++JR id x (L 0)) w1 r)) : Xl 71 #[Xp WB,Xp N,.slice (some (Xa b h)) n c] w (Qb3 B WB pv P w (Jo id x (L 0)++JR id x (L 0)++r.1,r.2)):=by
 have aA:=z.c3;have a7:=z.c0;have a8:w.cell? (Xa b (h+4))=some (.string (L 0).x):=by have:=(v.node 0 l).c4;rw [Nat.zero_mul,Nat.add_zero] at this;exact this
 have a9:Hid (∀ f w1,Zl B w1 WB f (P++Jo id x (L 0)) last->QT WB pv f w w1->w1.cell? (Xa b (h+3))=some (.slice (L 0).ao (L 0).an (L 0).ac)/\Xl 93 #[Xp WB,Xp N,.slice (L 0).ao (L 0).an (L 0).ac] w1 λe w'=>e=.returned (.tuple #[])/\∃ aa,Zl B w' WB aa (P++Jo id x (L 0)++JR id x (L 0)) last/\QT WB f aa w1 w'):=Qa λf w1 j a=>by
  have V:=z.tells a;have ab:=v.tells a;obtain ⟨ax,ay,az,v4⟩:=V.c4;refine ⟨?_,?_⟩
  ·have:=(ab.node 0 l).c3;rw [Nat.zero_mul,Nat.add_zero] at this;exact this
  have:=QwE B WB f (P++Jo id x (L 0)) last w1 j (Xb6 ah a.touch.size) (by have:=Qh1 id x (L 0);rw [length_append];omega) N id ax x.ats.length ay (QP x.ats) (Q6 x.ats) V.free V.c0 az v4 a1.few a1.names (L 0).ao (L 0).an (L 0).ac (L 0).nm (L 0).vl (ab.attrs 0 l) (K 0 l).an (K 0 l).ats;rw [append_assoc (P++Jo id x (L 0))] at this;exact this
 have ad:Hid (∀ f w1,QT WB pv f w w1->Xl 95 #[.slice (some (Xa b h)) n c] w1 λe w'=>∃ q,e=.returned q/\w'.ownsRow w1.heap.size 24 1 q (JD (λi=>(L i).d) n).length (QaZ b h c (JD (λi=>(L i).d) n))/\Xb w1 w'):=Qa λf w1 a => Qr5 b h n c (λi=>(L i).d) w1 l aw aq (v.tells a).free.1 (λi a2=>((v.tells a).node i a2).c0) (λi a2=>(K i a2).dep);have aj:=Qa ai;have ap:=Qa al;have ar:=Qa z.free;have au:=Qa v.free;have av:=(K 0 l).text;have aD:=z.free.1;have aE:=v.free.1;have aB:0<n:=l;clear al ai z v K a1;cases e:(x.text.toList==(L 0).x.toList) with
 | true =>
  have a3:=QgY (id:=id) e;go_enter Tryz.func71,Tryz.ntmps71;go_wp2;go_big_quiet (fail);have j:Zl B (w.drewN nq) WB pv (P++Jo id x (L 0)) last:=by rw [a3,append_nil];exact ap.out.below (Qv (.refl _ _) nq)
  have a:QT WB pv pv w (w.drewN nq):=.of_below (Qv (.refl _ _) nq);generalize w.drewN nq=w1 at j a ⊢;obtain ⟨a4,M⟩:=a9.out _ w1 j a;have a5:=Qa M;have W:=Qa a;clear M a j;go_wp2_with (first|(go_at_call 93;refine (Qb a5).mono ?_;rintro e w2 ⟨rfl,X,D,E⟩;have o:=Qa D;have s:=Qa (W.out.trans E);clear D E a4)|(go_at_call 95;refine (Qb ad _ _ s.out).mono ?_;rintro e w3 ⟨q3,rfl,t,F⟩;obtain ⟨a6,y,rfl⟩:=Qy t;have k:=Qa t;have u:=Qa F;clear t F)|(go_at_call 94;refine (Qb aj X w3 a6 _ y w2.heap.size (o.out.below u.out) (s.out.trans (.of_below u.out)) k.out rfl (λg e=>⟨(k.out.lt g e).2,λO=>by have:=o.out.lt;have:=(k.out.lt g e).1;omega,λO=>by have:=(o.out.row.lt g O).2;have:=(k.out.lt g e).1;omega⟩)).mono ?_;rintro e w4 ⟨rfl,G,H,I⟩;have Y:=Qa H;have a0:=Qa I;clear H I));refine bodyPost_end (results_none rfl _ _ _) rfl ?_;refine ⟨rfl,G,?_,(s.out.trans (.of_below u.out)).trans a0.out⟩;show Zl B w4 WB G (P++(Jo id x (L 0)++JR id x (L 0)++r.1)) r.2;rw [<- append_assoc,<- append_assoc];exact Y.out
 | false =>
  have a3:=Qji (id:=id) e;go_enter Tryz.func71,Tryz.ntmps71;go_wp2;go_big_quiet (fail);have J:Xb w (w.drewN nq):=Qv (.refl _ _) nq;have R:(w.drewN nq).cell? (Xa N 0)=some (Xi id):=a7;have T:(w.drewN nq).cell? (Xa b (h+4))=some (.string (L 0).x):=a8;generalize w.drewN nq=A at J R T ⊢;go_wp2_with fail;have ae:(λw':World=>Xc w' N 0 (Xi id)/\Xc w' b (h+4) (.string (L 0).x)) A.drew:=⟨R,T⟩;refine ZU (S:=(λw':World=>w'.cell? (Xa N 0)=some (Xi id)/\w'.cell? (Xa b (h+4))=some (.string (L 0).x))) (by kernel_rfl) ?_;iterate 10
   apply Qbz ?_ ae ?_;rotate_left
   ·(intro w' hSw;(try obtain ⟨q0,q1⟩:=hSw);simp only [Xq];go_simp;try (with_reducible rfl))
   simp only [Xq,Xr]
  refine Qbe 10 ?_;simp only [Xq];go_simp;refine ⟨.inr ?_,?_⟩
  ·exact ⟨((((Below.refl A.heap.size A).alloc X0 _).cell (p:=(Xa N 0)) (X6 R))).trans R,((((Below.refl A.heap.size A).alloc X0 _).cell (p:=(Xa b (h+4))) (X6 T))).trans T⟩
  clear ae;refine Qbe 11 ?_;simp only [Xq];go_simp;refine (Qdt B WB pv P last A (ap.out.below J) (Xb6 ah J.size) (by omega) 6 id 0 0 0 ⟨#[]⟩ ⟨#[]⟩ (L 0).x (by decide) (by decide) av).mono ?_;rintro e ak ⟨rfl,f,af,ag⟩;have U:=(QT.of_below (WB:=WB) (pv:=pv) J).trans ag;refine ⟨.inr ⟨(ar.out.cell U).trans a7,(au.out.cell U).trans a8⟩,?_⟩;have j:Zl B ak WB f (P++Jo id x (L 0)) last:=by rw [a3];exact af
  have a:=U;clear U ag af J R T;refine ZP (by kernel_rfl) ?_ _;generalize ak=w1 at j a ⊢;obtain ⟨a4,M⟩:=a9.out _ w1 j a;have a5:=Qa M;have W:=Qa a;clear M a j;go_wp2_with (first|(go_at_call 93;refine (Qb a5).mono ?_;rintro e w2 ⟨rfl,X,D,E⟩;have o:=Qa D;have s:=Qa (W.out.trans E);clear D E a4)|(go_at_call 95;refine (Qb ad _ _ s.out).mono ?_;rintro e w3 ⟨q3,rfl,t,F⟩;obtain ⟨a6,y,rfl⟩:=Qy t;have k:=Qa t;have u:=Qa F;clear t F)|(go_at_call 94;refine (Qb aj X w3 a6 _ y w2.heap.size (o.out.below u.out) (s.out.trans (.of_below u.out)) k.out rfl (λg e=>⟨(k.out.lt g e).2,λO=>by have:=o.out.lt;have:=(k.out.lt g e).1;omega,λO=>by have:=(o.out.row.lt g O).2;have:=(k.out.lt g e).1;omega⟩)).mono ?_;rintro e w4 ⟨rfl,G,H,I⟩;have Y:=Qa H;have a0:=Qa I;clear H I));refine bodyPost_end (results_none rfl _ _ _) rfl ?_;refine ⟨rfl,G,?_,(s.out.trans (.of_below u.out)).trans a0.out⟩;show Zl B w4 WB G (P++(Jo id x (L 0)++JR id x (L 0)++r.1)) r.2;rw [<- append_assoc,<- append_assoc];exact Y.out
variable {T:Int->NI}
theorem Ql3 (D:Nat->Int) (n:Nat):∀ k,k+1<=n->∀ s,s ∈ (Zo D n k).1->1<=s.1/\s.1<s.2/\s.2<=k+1
 | 0,_,s,a=>by simp [Zo] at a
 | k+1,hk,s,a=>by
  have ih:=Ql3 D n k (by omega);have c:=Qed D n k;cases b:Qaw D n (k+2) with
  | true =>
   rw [Qc7 b] at a;rcases Xa4.1 a with a|a
   ·have:=ih s a;omega
   have e:=Xa2.1 a;subst e;exact ⟨c.1,by show (Zo D n k).2<k+2;omega,X0⟩
  | false =>rw [Qd1 b] at a;have:=ih s a;omega
theorem Qce {D:Nat->Int} (b:1<=n) {s:Nat × Nat} (a:s ∈ JD D n):1<=s.1/\s.1<s.2/\s.2<=n:=by have:=Ql3 D n (n-1) (by omega) s a;omega
theorem Qim (D:Nat->Int) (n:Nat):(JD D n).length<=n:=Xb6 (QiA D n (n-1)) (Nat.sub_le _ _)
theorem QqX {S:Int->Prop} (h:Qb5 WB pv w nb S T) {a:List Int} (i:∀ k,k ∈ a->S k) (n:∀ j,j<a.length->∃ g,ko=some (Xa g 0)/\ZB WB pv w g/\w.cell? (Xa g j)=some (Xp (nb (a.getD j 0)))) : Qnm w ko a.length (λj=>((T (a.getD j 0)).tag,(T (a.getD j 0)).key)):=by
 intro j b;obtain ⟨g,e,f,c⟩:=n j b;have l:a.getD j 0 ∈ a:=by rw [Xg b];exact Xa0 b
 have d:=h.node _ (i _ l);have m:=h.ok _ (i _ l);exact ⟨g,_,e,f.1,d.free.1,c,d.c1,d.c2,m.tag,m.key⟩
theorem QrE {S:Int->Prop} (h:Qb5 WB pv w nb S T) {a:List Int} (i:∀ k,k ∈ a->S k) (l:∀ j,j<a.length->∃ g,ko=some (Xa g 0)/\ZB WB pv w g/\w.cell? (Xa g j)=some (Xp (nb (a.getD j 0)))) : Qe4 WB pv w ko a.length (λj=>a.getD j 0):=by
 intro j b;obtain ⟨g,e,f,c⟩:=l j b;have m:a.getD j 0 ∈ a:=by rw [Xg b];exact Xa0 b
 have d:=h.node _ (i _ m);exact ⟨g,_,e,f,d.free,c,d.c0⟩
theorem Qhm (a:w.ownsRow C e 1 (.slice ao n c) n xs) (i:j<n):∃ g,∃ b:j<xs.length,ao=some (Xa g 0)/\g<w.heap.size/\w.cell? (Xa g j)=some xs[j]:=by
 have b:xs.length=n:=by have:=a.1;omega
 rcases a.2 with ⟨e,k⟩|⟨g,f,h,e,l,d,_⟩
 ·omega
 simp at e;obtain ⟨rfl,rfl⟩:=e;refine ⟨g,by omega,rfl,(Xd0.1 d).1,?_⟩;rw [a.cellAt j (by omega),getElem?_eq_getElem (by omega)]
theorem QnA (k:w.ownsRow C e 1 (.slice po m pc) m (QaZ b o c ps)) (l:m=ps.length) (f:j<m):∃ g,po=some (Xa g 0)/\g<w.heap.size/\ps.getD j (0,0) ∈ ps/\w.cell? (Xa g j)=some (Qct b o c (ps.getD j (0,0))):=by
 obtain ⟨g,n,e,h,i⟩:=Qhm k f;have a:j<ps.length:=by omega
 have d:ps.getD j (0,0)=ps[j]:=by rw [Xg a];rfl
 refine ⟨g,e,h,by rw [d];exact Xa0 a,?_⟩;rw [i,d];simp only [QaZ,getElem_map]
theorem Qpl (z:w.ownsRow C e 1 (.slice po m pc) m (QaZ b o c (JD (λi=>(L i).d) n))) (q:m=(JD (λi=>(L i).d) n).length) (r:1<=n) (A:n<=100000) (l:Qbj WB pv w b o n L) (s:∀ i,i<n->(L i).Small) : QhY w po m (λj=>((L ((JD (λi=>(L i).d) n).getD j (0,0)).1).t,(L ((JD (λi=>(L i).d) n).getD j (0,0)).1).k)):=by
 intro j u;obtain ⟨g,v,x,p,y⟩:=QnA z q u;obtain ⟨B,D,E⟩:=Qce r p;simp only;generalize (JD (λi=>(L i).d) n).getD j (0,0)=a at *;have f:=l.node a.1 (by omega);have h:=s a.1 (by omega);have F:=h.tag;refine ⟨g,b,o+a.1*5,a.2-a.1-1,c-a.1,v,x,l.free.1,?_,f.c1,f.c2,?_,h.key,by omega⟩
 ·rw [y];unfold Qct;rw [show a.2-a.1-1+1=a.2-a.1 by omega]
 show (L a.1).t.size<=maxLen;unfold maxLen;omega
def Qgc (T:Int->NI) (nb:Int->Nat) (S:Int->Prop) (br:Br) (L:Nat->Qd) (f:Nat):Prop :=
  ∀ (B WB:Nat) (pv:Value) (P:List Qh) (last:Int) (w:World),Zl B w WB pv P last->B<=w.heap.size->Qb5 WB pv w nb S T ->
  ∀ (N:Nat) (id:Int) (x:NI),QdO WB pv w nb N id x->x.Ok->(∀ k,k ∈ x.kids->S k) ->
  ∀ (b a s n c:Nat),1<=n->n<=f->n<=c->n<=100000->Qbj WB pv w b a n (λi=>L (s+i))->(∀ i,i<n->(L (s+i)).Small) ->
  P.length+1020*n<=800000->0<=last->last+n<=4611686018427387904 ->
  Xl 71 #[Xp WB,Xp N,.slice (some (Xa b a)) n c] w (Qb3 B WB pv P w (br id x s n last))
theorem Qov {S:Int->Prop} (r:Qb5 WB pv w nb S T) (u:N<w.heap.size) {a:List Int} {f:Nat} (v:Xc w N 6 (.slice ko a.length f)) (x:∀ j,j<a.length->∃ g,ko=some (Xa g 0)/\ZB WB pv w g/\w.cell? (Xa g j)=some (Xp (nb (a.getD j 0)))) (y:∀ k,k ∈ a->S k) (D:a.length<=1000) (z:1<=n) (E:n<=1000) (A:Qbj WB pv w b o n (λi=>L (s+i))) (B:∀ i,i<n->(L (s+i)).Small) (h:w.ownsRow C 24 1 (.slice po m pc) m (QaZ b o c (Qe L s n))) (d:m=(Qe L s n).length) : Xl 112 #[Xp N,.slice po m pc] w λe w'=>∃ q,e=.returned q/\w'.ownsRow w.heap.size 3 1 q m (Qs (QE T L a s (Qe L s n)))/\Xb w w':=by
 have F:m<=n:=by rw [d];exact Qim _ _
 have l:QhY w po m (λj=>((L (s+((Qe L s n).getD j (0,0)).1)).t,(L (s+((Qe L s n).getD j (0,0)).1)).k)):=Qpl (L:=λi=>L (s+i)) h d z (by omega) A B;have p:=QqX r y x;have:=Qp3 N ko a.length f (λj=>((T (a.getD j 0)).tag,(T (a.getD j 0)).key)) po m pc (λj=>((L (s+((Qe L s n).getD j (0,0)).1)).t,(L (s+((Qe L s n).getD j (0,0)).1)).k)) w u (by omega) (by omega) v p l;have e:QE T L a s (Qe L s n)=QaJ (λj=>((T (a.getD j 0)).tag,(T (a.getD j 0)).key)) a.length (λj=>((L (s+((Qe L s n).getD j (0,0)).1)).t,(L (s+((Qe L s n).getD j (0,0)).1)).k)) m:=by rw [d];rfl
 rw [e];exact this
theorem QtH {S:Int->Prop} (n:Zl B w WB pv P last) (u:B<=w.heap.size) (v:Qb5 WB pv w nb S T) (q:ZB WB pv w N) {a:List Int} {r:Nat} (x:Xc w N 6 (.slice ko a.length r)) (y:∀ j,j<a.length->∃ g,ko=some (Xa g 0)/\ZB WB pv w g/\w.cell? (Xa g j)=some (Xp (nb (a.getD j 0)))) (z:∀ k,k ∈ a->S k) (t:a.length<=1000) (D:P.length<=800000) (i:Xb w w1) {c:Option Addr} {d:Nat} (A:m<=1000) {l:List Int} (h:w1.ownsRow w.heap.size 3 1 (.slice c m d) m (Qs l)) : Xl 113 #[Xp WB,Xp N,.slice c m d] w1 λe w'=>e=.returned (.tuple #[])/\∃ b,Zl B w' WB b (P++ZK (λj=>a.getD j 0) l a.length) last/\QT WB pv b w w'/\QdC WB b w' w.heap.size (.slice c m d) m l:=by have f:QT WB pv pv w w1:=.of_below i;have o:QdC WB pv w1 w.heap.size (.slice c m d) m l:=⟨h,λg e=>⟨(h.lt g e).2,λs=>by have:=n.lt;have:=(h.lt g e).1;omega,λs=>by have:=(n.row.lt g s).2;have:=(h.lt g e).1;omega⟩⟩;refine (QrU B WB pv P last w1 (n.below i) (Xb6 u i.size) (by omega) N ko a.length r (λj=>a.getD j 0) (q.tells f) ((q.cell f).trans x) ((QrE v z y).tells f) t w.heap.size c m d l o A).mono ?_;rintro e w' ⟨rfl,b,C,p⟩;exact ⟨rfl,b,C,f.trans p,o.tells p⟩
theorem Qr6 {B:Nat->ByteArray × Int} {p:Int} (a:p ∈ QaJ A n B m):p=-1 \/ (0<=p/\p<(n:Int)):=by unfold QaJ at a;obtain ⟨j,_,rfl⟩:=Xa5.1 a;unfold Qa8;cases e:QaT A n ⟨(B j).1,(B j).2,Q5 B (B j) j⟩ with| none=>exact .inl rfl| some v=>exact .inr (Qp1 A _ n v e)
theorem QfQ {a:List Int} {p:Int} (b:p ∈ QE T L a s ps):p=-1 \/ (0<=p/\p<(a.length:Int)):=Qr6 b
theorem QeT (T:Int->NI) (L:Nat->Qd) (a:List Int) (s:Nat) (ps:List (Nat × Nat)):(QE T L a s ps).length=ps.length:=QhE _ _ _ _
theorem Qf4 (v:Nat->Int):∀ n c,c ∈ Qp v n->∀ x,x ∈ c->x<n
 | 0,c,a=>by simp [Qp] at a
 | i+1,c,a=>by
  intro x b;have ih:=Qf4 v i;have d:∀ x,x ∈ QaE (Qp v i) (QU v (Qp v i) i) i->x<i+1:=λx b=>by
   rcases QkN b with e|⟨c,f,b⟩
   ·omega
   have:=ih c f x b;omega
  rw [Qp] at a;unfold Qat at a;split at a
  ·rcases Xb2 a with a|a
   ·have:=ih c a x b;omega
   subst a;exact d x b
  rcases Xa4.1 a with a|a
  ·have:=ih c a x b;omega
  have e:=Xa2.1 a;subst e;exact d x b
theorem QfH {α:Type}:∀ (l:List α) (d:α),l≠[]->l.getLastD d ∈ l| [],_,h=>absurd rfl h| [a],_,_=>by simp| a::b::l,d,_=>by rw [getLastD_cons];exact Xa8 _ (QfH (b::l) a (by simp))
theorem QoU {v:Nat->Int} {d:Int} (c:d ∈ QbE v n):∃ x,x<n/\v x=d:=by unfold QbE at c;rw [mem_reverse] at c;obtain ⟨x,b,rfl⟩:=Xa5.1 c;refine ⟨x,?_,rfl⟩;cases e:Qp v n with| nil=>rw [e] at b;simp at b| cons a l =>exact Qf4 v n ((Qp v n).getLastD []) (QfH _ _ (by rw [e];simp)) x b
theorem Qe1 {a:Int} (g:a ∈ Q4 pr):a ∈ pr/\a≠-1:=by
 obtain ⟨x,b,e⟩:=QoU g;have d:(pr.filter QL).getD x 0=(pr.filter QL)[x]:=by rw [Xg b];rfl
 have f:a ∈ pr.filter QL:=by rw [<- e];show (pr.filter QL).getD x 0 ∈ _;rw [d];exact Xa0 b
 have:=Xa7.1 f;refine ⟨this.1,λe=>?_⟩;have c:=this.2;rw [e] at c;revert c;decide
variable {br:Br}
def JF (a:List Int):List Int->Int
 | []=>0
 | k::_=>a.getD k.toNat 0
theorem Qdg {b:List Int} {q:KS} {a:Nat × Nat} {p:Int} (c:q.stay.head?=some p) : Qbk br T L id b s q a p=⟨q.pats++(br (b.getD p.toNat 0) (T (b.getD p.toNat 0)) (s+a.1) (a.2-a.1) q.last).1,q.stay.tail,(br (b.getD p.toNat 0) (T (b.getD p.toNat 0)) (s+a.1) (a.2-a.1) q.last).2⟩:=by unfold Qbk;rw [decide_eq_true c];rfl
theorem Qdi {b:List Int} {q:KS} {a:Nat × Nat} {p:Int} (d:q.stay.head?≠some p) (c:p=-1) : Qbk br T L id b s q a p=⟨q.pats++[⟨1,q.last+1,0,0,(L (s+a.1)).k,(L (s+a.1)).t,⟨#[]⟩,(L (s+a.1)).x⟩]++[⟨2,q.last+1,id,JF b q.stay,0,⟨#[]⟩,⟨#[]⟩,⟨#[]⟩⟩]++(br (q.last+1) ⟨(L (s+a.1)).k,(L (s+a.1)).t,(L (s+a.1)).x,[],[]⟩ (s+a.1) (a.2-a.1) (q.last+1)).1,q.stay,(br (q.last+1) ⟨(L (s+a.1)).k,(L (s+a.1)).t,(L (s+a.1)).x,[],[]⟩ (s+a.1) (a.2-a.1) (q.last+1)).2⟩:=by unfold Qbk;rw [decide_eq_false d,show (p==-1)=true by rw [c];rfl];simp only [cond_false,cond_true];cases q.stay<;>rfl
theorem QdD {b:List Int} {q:KS} {a:Nat × Nat} {p:Int} (d:q.stay.head?≠some p) (c:p≠-1) : Qbk br T L id b s q a p=⟨q.pats++[⟨2,b.getD p.toNat 0,id,JF b q.stay,0,⟨#[]⟩,⟨#[]⟩,⟨#[]⟩⟩]++(br (b.getD p.toNat 0) (T (b.getD p.toNat 0)) (s+a.1) (a.2-a.1) q.last).1,q.stay,(br (b.getD p.toNat 0) (T (b.getD p.toNat 0)) (s+a.1) (a.2-a.1) q.last).2⟩:=by unfold Qbk;rw [decide_eq_false d,show (p==-1)=false from beq_eq_false_iff_ne.2 c];simp only [cond_false];cases q.stay<;>rfl
theorem Qrm (br:Br) (T:Int->NI) (L:Nat->Qd) (id:Int) (g:List Int) (s:Nat) (q:KS) (a:Nat × Nat) (p:Int):∀ c,c ∈ (Qbk br T L id g s q a p).stay->c ∈ q.stay:=by
 intro c b;by_cases d:q.stay.head?=some p
 ·rw [Qdg d] at b;exact mem_of_mem_tail b
 by_cases f:p=-1
 ·rw [Qdi d f] at b;exact b
 rw [QdD d f] at b;exact b
theorem Qf3 (br:Br) (T:Int->NI) (L:Nat->Qd) (id:Int) (b:List Int) (s:Nat) (ps:List (Nat × Nat)) (pr:List Int) (q:KS):∀ k a,a ∈ (Zq br T L id b s ps pr q k).stay->a ∈ q.stay| 0,_,h=>h| k+1,a,h=>Qf3 br T L id b s ps pr q k a (Qrm br T L id b s _ _ _ a h)
def ZN (ps:List (Nat × Nat)):Nat->Nat
 | 0=>0
 | k+1=>ZN ps k+((ps.getD k (0,0)).2-(ps.getD k (0,0)).1)
theorem QjS (ps:List (Nat × Nat)) (a:Nat × Nat):∀ k,k<=ps.length->ZN (ps++[a]) k=ZN ps k
 | 0,_=>rfl
 | k+1,h=>by
  rw [ZN,ZN,QjS ps a k (by omega)];have:(ps++[a]).getD k (0,0)=ps.getD k (0,0):=by rw [getD_eq_getElem?_getD,getD_eq_getElem?_getD,getElem?_append_left (by omega)]
  rw [this]
theorem Qkr (D:Nat->Int) (n:Nat):∀ k,ZN (Zo D n k).1 (Zo D n k).1.length+1=(Zo D n k).2
 | 0=>rfl
 | k+1=>by
  have ih:=Qkr D n k;have b:=Qed D n k;cases a:Qaw D n (k+2) with
  | true =>
   rw [Qc7 a];show ZN ((Zo D n k).1++[((Zo D n k).2,k+2)]) ((Zo D n k).1++[((Zo D n k).2,k+2)]).length+1=k+2;rw [length_append];show ZN _ ((Zo D n k).1.length+1)+1=k+2;rw [ZN,QjS _ _ _ X0];have:((Zo D n k).1++[((Zo D n k).2,k+2)]).getD (Zo D n k).1.length (0,0)=((Zo D n k).2,k+2):=by rw [getD_eq_getElem?_getD,getElem?_append_right X0];simp
   rw [this];show ZN _ _+(k+2-(Zo D n k).2)+1=k+2;omega
  | false =>rw [Qd1 a];exact ih
theorem Qlt (ps:List (Nat × Nat)) (k:Nat):∀ j,ZN ps k<=ZN ps (k+j)| 0=>X0| j+1=>Xb6 (Qlt ps k j) (Nat.le_add_right _ _)
theorem Qgk (D:Nat->Int) (d:1<=n) (a:k<=(JD D n).length):ZN (JD D n) k+1<=n:=by have b:=Qkr D n (n-1);have f:=Qed D n (n-1);obtain ⟨j,e⟩:=Nat.exists_eq_add_of_le a;have c:=Qlt (JD D n) k j;rw [<- e] at c;have g:ZN (JD D n) (JD D n).length+1=(Zo D n (n-1)).2:=b;omega
def QgQ (br:Br) (L:Nat->Qd) (f:Nat):Prop:=∀ (id:Int) (x:NI) (s n:Nat) (last:Int),x.kids.length<=1000->x.ats.length<=5->1<=n->n<=f->(∀ i,i<n->(L (s+i)).an<=5)->(br id x s n last).1.length+2<=1020*n/\last<=(br id x s n last).2/\(br id x s n last).2+1<=last+n
theorem QgR {br:Br} {T:Int->NI} {L:Nat->Qd} {f:Nat} (d:QgQ br L f) (m:∀ i,(T i).kids.length<=1000/\(T i).ats.length<=5) (id:Int) (b:List Int) (s n:Nat) (u:n<=f+1) (o:∀ i,i<n->(L (s+i)).an<=5) (ps:List (Nat × Nat)) (h:∀ a,a ∈ ps->1<=a.1/\a.1<a.2/\a.2<=n) (pr:List Int) (q:KS) : ∀ k,k<=ps.length->(Zq br T L id b s ps pr q k).pats.length<=q.pats.length+1020*ZN ps k/\q.last<=(Zq br T L id b s ps pr q k).last/\(Zq br T L id b s ps pr q k).last<=q.last+ZN ps k
 | 0,_=>⟨by simp [Zq,ZN],by simp [Zq],by simp [Zq,ZN]⟩
 | k+1,hk=>by
  obtain ⟨z,A,B⟩:=QgR d m id b s n u o ps h pr q k (by omega);have v:ps.getD k (0,0) ∈ ps:=by rw [Xg (by omega)];exact Xa0 _
  obtain ⟨C,D,E⟩:=h _ v;rw [Zq,ZN];generalize Zq br T L id b s ps pr q k=c at *;generalize ps.getD k (0,0)=a at *;generalize pr.getD k 0=p at *;have j:∀ i,i<a.2-a.1->(L (s+a.1+i)).an<=5:=λi F=>by rw [Nat.add_assoc];exact o _ (by omega)
  have l:=m (b.getD p.toNat 0);have G:=d (b.getD p.toNat 0) (T (b.getD p.toNat 0)) (s+a.1) (a.2-a.1) c.last l.1 l.2 (by omega) (by omega) j;have y:=d (c.last+1) ⟨(L (s+a.1)).k,(L (s+a.1)).t,(L (s+a.1)).x,[],[]⟩ (s+a.1) (a.2-a.1) (c.last+1) X3 X3 (by omega) (by omega) j;by_cases g:c.stay.head?=some p
  ·rw [Qdg g];simp only [length_append];omega
  by_cases r:p=-1
  ·rw [Qdi g r];simp only [length_append,length_cons,length_nil];omega
  rw [QdD g r];simp only [length_append,length_cons,length_nil];omega
theorem QfG {T:Int->NI} {L:Nat->Qd} (c:∀ i,(T i).kids.length<=1000/\(T i).ats.length<=5):∀ f,QgQ (ZE T L f) L f| 0=>λ_ _ _ _ _ _ _ h k _=>by omega| f+1=>λid x s n last o d b l g=>by have p:=Qh1 id x (L s);have h:=Qfw id (QP x.ats) (L s).nm (L s).an x.ats.length;have k:=Qhk id (QP x.ats) (Q6 x.ats) x.ats.length (L s).nm (L s).vl (L s).an;have m:=g 0 b;have q:=Qhp (λj=>x.kids.getD j 0) (QE T L x.kids s (Qe L s n)) x.kids.length;have r:=QgR (QfG c f) c id x.kids s n l g (Qe L s n) (λa d=>Qce b d) (QE T L x.kids s (Qe L s n)) ⟨ZK (λj=>x.kids.getD j 0) (QE T L x.kids s (Qe L s n)) x.kids.length,Q4 (QE T L x.kids s (Qe L s n)),last⟩ (Qe L s n).length X0;have t:ZN (Qe L s n) (Qe L s n).length+1<=n:=Qgk _ b X0;simp only [ZE,Qad,JR,length_append] at *;rw [Nat.add_zero] at m;omega
def QbK (WB:Nat) (pv:Value) (w:World) (b:Option Addr) (l:List Int):Prop:=∀ j,j<l.length->∃ g a,b=some (Xa g a)/\ZB WB pv w g/\w.cell? (Xa g (a+j))=some (Xi (l.getD j 0))
theorem QbK.tells {WB:Nat} {pv a:Value} {w w':World} {b:Option Addr} {l:List Int} (h:QbK WB pv w b l) (k:QT WB pv a w w'):QbK WB a w' b l:=λj d=>by obtain ⟨g,i,e,f,c⟩:=h j d;exact ⟨g,i,e,f.tells k,(f.cell k).trans c⟩
theorem QbK.head {k:Int} {l:List Int} (d:QbK WB pv w so (k::l)):∃ g a,so=some (Xa g a)/\ZB WB pv w g/\w.cell? (Xa g a)=some (Xi k)/\QbK WB pv w (some (Xa g (a+1))) l:=by obtain ⟨g,a,e,f,c⟩:=d 0 (by simp);refine ⟨g,a,e,f,by simpa using c,λj i=>?_⟩;obtain ⟨m,n,b,o,h⟩:=d (j+1) (by simp;omega);rw [e] at b;cases b;refine ⟨g,a+1,rfl,f,?_⟩;rw [show a+1+j=a+(j+1) by omega,h];simp
theorem QbK.of_row {l:List Int} (a:w.ownsRow C 3 1 (.slice so n c) n (Qs l)) (b:∀ g,Value.ownBlock (.slice so n c)=some g->ZB WB pv w g):QbK WB pv w so l:=λj d=>by
 have f:(Qs l).length=n:=by have:=a.1;omega
 have i:l.length=n:=by rw [<- f];simp [Qs]
 obtain ⟨g,k,e,m,h⟩:=Qhm a (j:=j) (by omega);refine ⟨g,0,e,b g (by rw [e];rfl),?_⟩;rw [Nat.zero_add,h,Xg d];simp [Qs]
theorem QoH (b:w.ownsRow C e size (.slice ao n c) n xs):n<=c:=by
 rcases b.2 with ⟨a,h⟩|⟨g,d,f,a,_,_,i,_⟩
 ·omega
 simp at a;omega
theorem Qbj.sub (d:Qbj WB pv w b o n (λi=>L (s+i))) {a c:Nat} (g:a<c) (h:c<=n):Qbj WB pv w b (o+a*5) (c-a) (λi=>L (s+a+i)):=by
 refine ⟨d.free,λi f=>?_,λi f=>?_⟩
 ·have:=d.node (a+i) (by omega);rw [show o+(a+i)*5=o+a*5+i*5 by omega] at this;rw [Nat.add_assoc s];exact this
 rw [Nat.add_assoc s];exact d.attrs (a+i) (by omega)
theorem QhM {S:Int->Prop} (p:Qgc T nb S br L f) (t:B<=w.heap.size) (j:Qb5 WB pv w nb S T) (z:n<=f+1) (A:n<=c) (_hn2:n<=1000) (u:Qbj WB pv w b o n (λi=>L (s+i))) (v:∀ i,i<n->(L (s+i)).Small) {a:Nat × Nat} (m:1<=a.1/\a.1<a.2/\a.2<=n) {i:Int} (k:S i) g w' l d (h:QT WB pv g w w') (x:Zl B w' WB g l d) (y:l.length+1020*(a.2-a.1)<=800000) (q:0<=d) (r:d+((a.2-a.1:Nat):Int)<=4611686018427387904) : Xl 71 #[Xp WB,Xp (nb i),Qct b o c a] w' (Qb3 B WB g l w' (br i (T i) (s+a.1) (a.2-a.1) d)) := p B WB g l d w' x (Xb6 t h.touch.size) (j.tells h) (nb i) i (T i) ((j.tells h).node i k) (j.ok i k) (j.kids i k) b (o+a.1*5) (s+a.1) (a.2-a.1) (c-a.1) (by omega) (by omega) (by omega) (by omega) ((u.tells h).sub m.2.1 m.2.2) (λi k=>by rw [Nat.add_assoc];exact v _ (by omega)) y q r
theorem Qke {S:Int->Prop} (u:Qgc T nb S br L f) (z:B<=w.heap.size) (A:Qb5 WB pv w nb S T) (J:n<=f+1) (K:n<=c) (_hn2:n<=1000) (C:Qbj WB pv w b o n (λi=>L (s+i))) (q:∀ i,i<n->(L (s+i)).Small) {a:Nat × Nat} (r:1<=a.1/\a.1<a.2/\a.2<=n) h w' m g (p:QT WB pv h w w') (E:Zl B w' WB h m g) (F:m.length+1020*(a.2-a.1)<=800000) (v:0<=g) (y:g+((a.2-a.1:Nat):Int)<=4611686018427387904) D (i:Int) (G:ZB WB h w' D) (d:w'.heap[D]?=some (.cells #[Xi i,Xi (L (s+a.1)).k,.string (L (s+a.1)).t,.string (L (s+a.1)).x,Xv,.pointer none,Xv] 138 (0,0))) : Xl 71 #[Xp WB,Xp D,Qct b o c a] w' (Qb3 B WB h m w' (br i ⟨(L (s+a.1)).k,(L (s+a.1)).t,(L (s+a.1)).x,[],[]⟩ (s+a.1) (a.2-a.1) g)) := u B WB h m g w' E (Xb6 z p.touch.size) (A.tells p) D i ⟨(L (s+a.1)).k,(L (s+a.1)).t,(L (s+a.1)).x,[],[]⟩ ⟨G,Qj d 0 _ rfl,Qj d 1 _ rfl,Qj d 2 _ rfl,Qj d 3 _ rfl,⟨none,0,Qj d 4 _ rfl,⟨λj l=>absurd l (Xb7 _),λH=>absurd H (Xc8 _)⟩⟩,⟨none,0,Qj d 6 _ rfl,λj l=>absurd l (Xb7 _)⟩⟩ ⟨X3,λj l=>absurd l (Xb7 _),by have:=(q a.1 (by omega)).tag;show (L (s+a.1)).t.size<=maxLen;unfold maxLen;omega,(q a.1 (by omega)).key,X3⟩ (λk I=>by cases I) b (o+a.1*5) (s+a.1) (a.2-a.1) (c-a.1) (by omega) (by omega) (by omega) (by omega) ((C.tells p).sub r.2.1 r.2.2) (λi M=>by rw [Nat.add_assoc];exact q _ (by omega)) F v y
theorem QnX (m:QgQ br L f) (p:∀ i,(T i).kids.length<=1000/\(T i).ats.length<=5) (id:Int) {x:NI} (B:x.kids.length<=1000) (b:1<=n) (q:n<=f+1) (r:∀ i,i<n->(L (s+i)).Small) (C:P.length+1020*n<=800011) (z:0<=last) (A:last+n<=4611686018427387904) (o:Qe L s n=ps) (pr:List Int) (k:Nat) (g:k<ps.length) (K:KS) (t:Zq br T L id x.kids s ps pr ⟨ZK (λj=>x.kids.getD j 0) pr x.kids.length,Q4 pr,last⟩ k=K) : (1<=(ps.getD k (0,0)).1/\(ps.getD k (0,0)).1<(ps.getD k (0,0)).2/\(ps.getD k (0,0)).2<=n)/\(P++K.pats).length+2+1020*((ps.getD k (0,0)).2-(ps.getD k (0,0)).1)<=800000/\0<=K.last/\K.last+1+(((ps.getD k (0,0)).2-(ps.getD k (0,0)).1:Nat):Int)<=4611686018427387904/\(∀ l,l ∈ K.stay->l ∈ Q4 pr):=by
 subst o;subst t;have c:=QgR m p id x.kids s n q (λi u=>(r i u).an) (Qe L s n) (λa v=>Qce b v) pr ⟨ZK (λj=>x.kids.getD j 0) pr x.kids.length,Q4 pr,last⟩ k (by omega);have h:ZN (Qe L s n) (k+1)+1<=n:=Qgk _ b (by exact g);have D:=Qhp (λj=>x.kids.getD j 0) pr x.kids.length;have d:(Qe L s n).getD k (0,0) ∈ Qe L s n:=by rw [Xg g];exact Xa0 _
 have y:=Qf3 br T L id x.kids s (Qe L s n) pr ⟨ZK (λj=>x.kids.getD j 0) pr x.kids.length,Q4 pr,last⟩ k;refine ⟨Qce b d,?_,?_,?_,y⟩
 ·have:=Qce b d;rw [ZN] at h;rw [length_append];have:=c.1;simp only at this;omega
 ·have:=c.2.1;simp only at this;omega
 have:=Qce b d;rw [ZN] at h;have:=c.2.2;simp only at this;omega
end Go.Proofs.YtobgcaemnpkbmaaGreat
