import Derived.Test.YtobgcaemnpkbmaaGreatY01
import Derived.Deep.OwnRows
import Derived.Laws.CopyRow
import Derived.Laws.OwnMore
import Derived.Maps.AppendAt
namespace Go.Proofs.YtobgcaemnpkbmaaGreat
set_option maxRecDepth 100000
set_option maxHeartbeats 8000000
open Go.RowKit List
section
variable {Q:Exit->Act->World->Prop} {id last:Int} {xs:List Value} {b base k m n p size:Nat} {S S':Nat->Prop} {e:TypeId} {v:Value} {w w':World}
theorem Qdp (n:Qd) (r:Bool) (a:ZZ n=r) (w:World) (b:n.Ok w) : Xl 23 #[.agg #[Xi n.d,.string n.t,Xi n.k,.slice n.ao n.an n.ac,.string n.x]] w λe w'=>e=.returned (.bool r)/\Xb w w':=by subst a;exact Qqa n w b
theorem Qn4 (b a n c:Nat) L i p (h:Par L i p) w (j:n<=maxLen) (k:i<n) (l:Qac w b a n L) (f:1<=(L i).d) (g:(L i).d<=11) : Xl 24 #[.slice (some (Xa b a)) n c,Xi i] w λe w'=>e=.returned (Xi p)/\Xb w w':=by rw [<- h.parent];exact Qne b a n c L i w j k l f g
structure QgP (w:World) (b:Nat) (n:Qd):Prop where
 lt:b<w.heap.size
 c0:w.cell? (Xa b 0)=some (Xi n.d)
 c1:w.cell? (Xa b 1)=some (.string n.t)
 c2:w.cell? (Xa b 2)=some (Xi n.k)
theorem QgP.below {n:Qd} (a:QgP w b n) (c:Xb w w'):QgP w' b n := ⟨Xb4 a.lt c.size,(Xh c b _ a.lt).trans a.c0,(Xh c b _ a.lt).trans a.c1,(Xh c b _ a.lt).trans a.c2⟩
theorem QrT (w:World) (n:Qd) (t:TypeId):QgP (w.alloc (.cells #[Xi n.d,.string n.t,Xi n.k,.slice n.ao n.an n.ac,.string n.x] t)) w.heap.size n := ⟨by simp,by simp [go_sem],by simp [go_sem],by simp [go_sem]⟩
theorem Qml {a:Nat->Prop} (d:∀ j,p<j->j<m->¬ a j) (b:¬ a m):∀ j,p<j->j<m+1->¬ a j:=by
 intro j c f;by_cases e:j=m
 ·subst e;exact b
 exact d j c (by omega)
theorem Qif ao (n c:Nat) L w (a6:n<=maxLen) (s:Jp w ao n L) : Xl 13 #[.slice ao n c] w λe w'=>e=.returned (.tuple #[Xi (Zk (QF L) n).1,Xi (Zk (QF L) n).2])/\Xb w w':=by
 have aq:=Qa a6;unfold maxLen at a6;by_cases K:n<1 \/ 400<n
 ·have D:Hid (Zk (QF L) n=(1,0)):=Qa (by unfold Zk;rw [if_pos K]);clear s;rcases K with K|K;all_goals go_enter Tryz.func13,Tryz.ntmps13;go_wp2;go_ret2;exact ⟨Qbr D.out,X4⟩
 have aF:1<=n:=by omega
 have aG:n<=400:=by omega
 have D:Hid (Zk (QF L) n=QbZ (QF L) n):=Qa (by unfold Zk;rw [if_neg K]);clear K;obtain ⟨b,ax,rfl,a7⟩:=s (by omega);have ar:=Qa a7;clear s a7;go_enter Tryz.func13,Tryz.ntmps13;go_wp2;go_loopw [4,5,6,7,8] (λi _ _ _ _ wr=>∃ k:Nat,k<=n/\i=Xi k/\Hid (∀ j,j<k->QF L j=true)/\Xb w wr) (λi _ _ _ _ _=>n-(intOf i).toNat);·exact ⟨0,X3,rfl,Qa (λj s=>absurd s (Xb7 _)),X4⟩
 case round =>
  obtain ⟨k,aH,rfl,u,g⟩:=hrel;by_cases H:k<n
  ·have T:=Qa (ar.out.below g);obtain ⟨a8,a9,aa,ab,ad,a2⟩:=T.out.node k H;have E:=Qa a2;clear a2;have o:Xb wr (wr.alloc (.cells #[Xi (L k).d,.string (L k).t,Xi (L k).k,.slice (L k).ao (L k).an (L k).ac,.string (L k).x] 33)):=Xd;have B:=QrT wr (L k) 33;by_cases au:k=0
   ·subst au;simp only [Nat.zero_mul,Nat.add_zero] at a8 a9 aa ab ad;cases y:QF L 0 with
    | true =>
     have C:=y;rw [QjC] at C;have l:ZZ (L 0)=true:=by simp at C;exact C.1.1
     have z:((L 0).d !=0)=false:=by simp at C;simp [C.1.2]
     have O:(L 0).t.toList.isEmpty=false:=by simp at C;simpa using C.2
     have f:=Qa (Qdu u.out y);have v:=Qa l;clear y C l;go_wp2_with fail;refine (Qdp (L 0) true (Qb v) _ ((Qb E).below o)).mono ?_;rintro e w2 ⟨rfl,h⟩;obtain ⟨_,F,I,G⟩:=B.below h;go_wp2;go_roundw;·exact ⟨1,by omega,by go_num,f,g.trans ((o.trans (h.mono (by simp))).mono g.size)⟩
     simp [intOf];omega
    | false =>
     have f:=Qa (D.out.trans (QeM H u.out y));rw [QjC] at y;cases l:ZZ (L 0) with
     | false =>have v:=Qa l;clear y l;go_wp2_with fail;refine (Qdp (L 0) false (Qb v) _ ((Qb E).below o)).mono ?_;rintro e w2 ⟨rfl,h⟩;obtain ⟨_,F,I,G⟩:=B.below h;go_wp2;go_ret2;exact ⟨Qbr f.out,g.trans ((o.trans (h.mono (by simp))).mono g.size)⟩
     | true =>
      have v:=Qa l;by_cases N:(L 0).d=0
      ·have z:((L 0).d !=0)=false:=by simp [N]
       have O:(L 0).t.toList.isEmpty=true:=by rw [l,decide_eq_true N] at y;simpa using y
       clear y l N;go_wp2_with fail;refine (Qdp (L 0) true (Qb v) _ ((Qb E).below o)).mono ?_;rintro e w2 ⟨rfl,h⟩;obtain ⟨_,F,I,G⟩:=B.below h;go_wp2;go_ret2;exact ⟨Qbr f.out,g.trans ((o.trans (h.mono (by simp))).mono g.size)⟩
      have z:((L 0).d !=0)=true:=by simp [N]
      clear y l N;go_wp2_with fail;refine (Qdp (L 0) true (Qb v) _ ((Qb E).below o)).mono ?_;rintro e w2 ⟨rfl,h⟩;obtain ⟨_,F,I,G⟩:=B.below h;go_wp2;go_ret2;exact ⟨Qbr f.out,g.trans ((o.trans (h.mono (by simp))).mono g.size)⟩
   have aI:((k:Int)==0)=false:=by simp;omega
   have ah:=Qg8 (u.out (k-1) (by omega));obtain ⟨ay,az⟩:=ah;cases l:ZZ (L k) with
   | false =>have f:=Qa (D.out.trans (QeM H u.out (by rw [Qh6 (by omega),l];rfl)));have v:=Qa l;clear l;go_wp2_with fail;refine (Qdp (L k) false (Qb v) _ ((Qb E).below o)).mono ?_;rintro e w2 ⟨rfl,h⟩;obtain ⟨_,F,I,G⟩:=B.below h;go_wp2;go_big_quiet (fail);go_wp2;go_ret2;exact ⟨Qbr f.out,Qv (g.trans ((o.trans (h.mono (by simp))).mono g.size)) _⟩
   | true =>
    have v:=Qa l;cases r:JM (L (k-1)).d (L k).d with
    | false =>
     have f:=Qa (D.out.trans (QeM H u.out (by rw [Qh6 (by omega),r];simp)));clear l;go_wp2_with fail;refine (Qdp (L k) true (Qb v) _ ((Qb E).below o)).mono ?_;rintro e w2 ⟨rfl,h⟩;have A:=o.trans (h.mono (by simp));obtain ⟨_,F,I,G⟩:=B.below h;have ae:=((T.out.below A).node (k-1) (by omega)).c0;by_cases Y:(L k).d<1
     ·clear r;go_wp2;go_big_quiet (fail);go_wp2;go_ret2;exact ⟨Qbr f.out,Qv (g.trans (A.mono g.size)) _⟩
     have ai:decide ((L k).d<1)=false:=by simpa using Y
     by_cases af:(L (k-1)).d+1<(L k).d
     ·clear r Y;go_wp2;go_big_quiet (fail);go_wp2;go_ret2;exact ⟨Qbr f.out,Qv (g.trans (A.mono g.size)) _⟩
     have aj:decide ((L (k-1)).d+1<(L k).d)=false:=by simpa using af
     have aJ:12<=(L k).d:=by apply Classical.byContradiction;intro aK;rw [QlI (by omega) (by omega) (by omega)] at r;cases r
     clear r Y af;go_wp2;go_big_quiet (fail);go_wp2;go_ret2;exact ⟨Qbr f.out,Qv (g.trans (A.mono g.size)) _⟩
    | true =>
     have a3:1<=(L k).d:=by unfold JM at r;simp at r;omega
     have ak:(L k).d<=(L (k-1)).d+1:=by unfold JM at r;simp at r;omega
     have al:(L k).d<=11:=by unfold JM at r;simp at r;omega
     obtain ⟨p,a0⟩:=Qie (by omega) u.out a3 ak;have aB:=a0.lt;have P:=Qa a0;have V:=Qa (show QF L k=Z4 L k k by rw [Qh6 (by omega),l,r];rfl);have aA:=Qo5 l;have ai:decide ((L k).d<1)=false:=by simp;omega
     have aj:decide ((L (k-1)).d+1<(L k).d)=false:=by simp;omega
     have aC:decide ((12:Int)<=(L k).d)=false:=by simp;omega
     clear l r a0;go_wp2_with fail;refine (Qdp (L k) true (Qb v) _ ((Qb E).below o)).mono ?_;rintro e w2 ⟨rfl,h⟩;have A:=o.trans (h.mono (by simp));have M:=B.below h;have U:=Qa (T.out.below A);have F:=M.c0;have I:=M.c1;have G:=M.c2;have ae:=(U.out.node (k-1) (by omega)).c0;clear B a8 a9 aa ab ad;go_wp2;go_big_quiet (fail);go_wp2_with fail;refine (Qn4 b ax n c L k p (Qb P) _ (Qb aq) H ((Qb U).below (Qv X4 _)) a3 al).mono ?_;rintro e w3 ⟨rfl,a4⟩;have a5:=Qv (Below.refl w2.heap.size w2) nq;have R:=a5.trans (a4.mono X0);have W:=Qa (U.out.below R);have a1:=M.below R;clear F I G ae M;have F:=a1.c0;have G:=a1.c2;have aL:=(W.out.node p (by omega)).c1;have S:Xb w w3:=g.trans ((A.mono g.size).trans (R.mono (Xb6 g.size A.size)));clear a5 R a4 A o h U T E;cases O:(L p).t.toList.isEmpty with
     | true =>have f:=Qa (D.out.trans (QeM H u.out (V.out.trans (P.out.text O))));go_wp2;go_ret2;exact ⟨Qbr f.out,S⟩
     | false =>
      go_wp2;go_loopw [8] (λi wr=>∃ m q:Nat,p<m/\m<=k/\i=Xi m/\Hid (∀ j,p<j->j<m->¬ ((L k).k≠0/\(L j).d=(L k).d/\(L j).k=(L k).k))/\wr=w3.drewN q) (λi _=>k-(intOf i).toNat);·exact ⟨p+1,0,by omega,by omega,by go_num,Qa (λj s aM=>by omega),rfl⟩
      case round =>
       obtain ⟨m,q,ap,aD,rfl,X,rfl⟩:=hrel;by_cases ag:m<k
       ·by_cases aE:0<(L k).k
        ·have aN:=(W.out.node m (by omega)).c0;have aO:=(W.out.node m (by omega)).c2;by_cases z:(L m).d=(L k).d
         ·have av:((L m).d==(L k).d)=true:=by simp [z]
          by_cases J:(L m).k=(L k).k
          ·have aw:((L m).k==(L k).k)=true:=by simp [J]
           have f:=Qa (D.out.trans (QeM H u.out (V.out.trans (P.out.bad ap ag ⟨by omega,z,J⟩))));clear z J;go_wp2;go_big_quiet (fail);go_wp2;go_ret2;exact ⟨Qbr f.out,Qv (Qv S _) _⟩
          have aw:((L m).k==(L k).k)=false:=by simp [J]
          have f:=Qa (Qml X.out (p:=p) (m:=m) (λs=>J s.2.2));clear z J;go_wp2;go_big_quiet (fail);go_wp2;go_roundw;·exact ⟨m+1,_,by omega,by omega,by go_num,f,rfl⟩
          simp [intOf];omega
         have av:((L m).d==(L k).d)=false:=by simp [z]
         have f:=Qa (Qml X.out (p:=p) (m:=m) (λs=>z s.2.1));clear z;go_wp2;go_big_quiet (fail);go_wp2;go_roundw;·exact ⟨m+1,_,by omega,by omega,by go_num,f,rfl⟩
         simp [intOf];omega
        have f:=Qa (Qdu u.out (V.out.trans ((P.out.good (λj _ _ s=>s.1 (by omega))).trans (by rw [O];rfl))));go_wp2;go_roundw;·exact ⟨k+1,by omega,by go_num,f,Qv S _⟩
        simp [intOf];omega
       have f:=Qa (Qdu u.out (V.out.trans ((P.out.good (λj a b=>X.out j a (by omega))).trans (by rw [O];rfl))));go_wp2;go_roundw;·exact ⟨k+1,by omega,by go_num,f,Qv S _⟩
       simp [intOf];omega
  have f:=Qa (D.out.trans (Qj9 λj aP=>u.out j (by omega)));go_wp2;go_ret2;exact ⟨Qbr f.out,g⟩
theorem QsM (w:World) (a:Array Value) (n:Nat) (t:TypeId):∃ f,(w.alloc (.cells (madeCells a n) t)).rowIs w.heap.size t n f:=by refine ⟨λi=>a[i % a.size]!,?_⟩;have c:=World.rowIs_alloc w (madeCells a n) t (λi=>a[i % a.size]!) (λi b=>by rw [size_madeCells] at b;simp [madeCells,b]);rw [size_madeCells] at c;exact c
theorem Qfj {P:Program} {k:Array Oper} {h:List Oper} {b:Oper} {a:Act} (s:b.guard=none) (l c:Operand) (t:TypeId) (p:b.op=Op.makeSlice t l c) (e:TypeId) (i:TypeInfo) (d:Value) (size g:Nat) (u:P.underlying t=some (.slice e)) (v:P.info? e=some i) (x:i.zero=some d) (y:i.size=size) (z:i.bytes=g) (m o:IntKind) (A:Int) (n:Nat) (B:a.eval l=.int m A) (C:a.eval c=.int o A) (D:A=(n:Int)) (H:g*n<=281474976710656) (I:n<=9223372036854775807) (E:∀ w' f,Hid (w'.rowIs w.heap.size e (n*size) f)->w'.heap.size=w.heap.size+1->Xb w w'->wpList P k Q h (a.put b.dst (Xe w.heap.size n n)) w') : wpList P k Q (b::h) a w:=by
 refine wpList_plain s λK q=>?_;have r:(i.bytes:Int)*(n:Int)<=281474976710656:=by
  have G:((i.bytes*n:Nat):Int)<=281474976710656:=by rw [z];omega
  rwa [Int.natCast_mul] at G
 have j:=run_make (P:=P) w t e i d u v x m o n n (by omega) (Int.le_refl _) r (by omega);rw [Int.toNat_natCast,y] at j;obtain ⟨f,F⟩:=QsM w d.cells (n*size) e;unfold Oper.wp;simp [execOp,p,B,C,D,j,Result.andThen];exact q _ _ (E _ f (Qa F) (by simp) Xd)
theorem QuE {α:Type} (F:Nat->α) (n j:Nat) (v:α) (a:((List.range n).map F)[j]?=some v):j<n/\v=F j:=by
 rw [getElem?_map] at a;by_cases b:j<n
 ·rw [getElem?_range b] at a;exact ⟨b,(Xb5 a).symm⟩
 rw [getElem?_eq_none (by simp;omega)] at a;cases a
theorem QiF {P:Program} {M:Array Oper} {E:List Oper} {p:Oper} {a:Act} (Y:p.guard=none) (d s:Operand) (y O:TypeId) (a4:p.op=.call { callee:=.builtin .copy,args:=#[d,s],argTypes:=#[y,O] }) (G:TypeId) (z:P.underlying y=some (.slice G)) (c:Nat) (a0:(P.info? G).map (·.size)=some c) (g q H:Nat) (u:Option Addr) (b I:Nat) (a5:a.eval d=Xe g q H) (a6:a.eval s=.slice u b I) (a1:b<=q) (t:TypeId) (N:Nat) (f:Nat->Value) (T:w.rowIs g t N f) (F:Nat->Value) (U:0<b->∃ h,u=some h/\∀ j,j<b*c->w.cell? (h.add j)=some (F j)) (ab:b*c<=N) (a7:∀ j,j<b*c->(F j).oneCell'=true) (B:Nat) (R:World) (a8:Below B R w) (ac:B<=g) (aa:∀ w',Hid (w'.rowIs g t N (λj=>if j<b*c then F j else f j))->w'.heap.size=w.heap.size->Below B R w'->wpList P M Q E (a.put p.dst (goInt b)) w') : wpList P M Q (p::E) a w:=by
 refine wpList_plain Y λK a9=>?_;obtain ⟨i,A,V⟩:=Option.map_eq_some_iff.1 a0;obtain ⟨l,x,ad,a2⟩:=T;have W:Nat.min b q=b:=Nat.min_eq_left a1;have J:((List.range (b*c)).map F).length=b*c:=by simp
 have a3:=run_storeCells_at P g 0 t ((List.range (b*c)).map F) 0 l w x (by rw [J];omega) (λv m=>by obtain ⟨j,n,rfl⟩:=Xa5.1 m;exact a7 j (Xa6.1 n));have X:(Builtin.copy_ #[y,O] p.type #[Xe g q H,.slice u b I]).run P w = .ok (goInt b) (w.setRow g (l.toList.take (0+0)++(List.range (b*c)).map F++l.toList.drop (0+0+((List.range (b*c)).map F).length)).toArray):=by
  by_cases C:0<b
  ·obtain ⟨h,rfl,S⟩:=U C;have o:=run_loadCells_list (P:=P) w h ((List.range (b*c)).map F) (λj v m=>by obtain ⟨n,rfl⟩:=QuE F _ _ _ m;exact S j n);rw [J] at o;simp only [Builtin.copy_,Builtin.lenOf,Builtin.firstCells,sizeOf,typeInfo];simp [run_underlying z,A,V,W,o,a3]
  have C:b=0:=by omega
  subst C;have L:(storeCells (Xa g 0) [] 0).run P w=.ok () w:=rfl;have D:=setRow_self w g l t (0,0) x;cases u with| none =>simp [Builtin.copy_,run_underlying z,Builtin.lenOf,Builtin.firstCells,sizeOf,typeInfo,A,L,D]| some h =>have o:=run_loadCells_list (P:=P) w h [] (λj v m=>by simp at m);simp at o;simp [Builtin.copy_,run_underlying z,Builtin.lenOf,Builtin.firstCells,sizeOf,typeInfo,A,L,D,o]
 unfold Oper.wp;simp [execOp,a4,resolve,invoke,builtin,a5,a6,X,Result.andThen];refine a9 _ _ (aa _ (Qa ?_) (by simp [World.setRow]) ?_)
 ·refine ⟨_,setRow_heap w g l _ t _ x,by simp;omega,λj n=>?_⟩;by_cases r:j<b*c
  ·simp only [r,if_true];simp [getElem?_append,r]
  simp only [r,if_false];rw [<- a2 j n];simp [getElem?_append,r];congr 1
  omega
 exact a8.trans ⟨rfl,rfl,rfl,by simp [World.setRow],λk ae=>setRow_other w g k _ (by omega)⟩
structure PN where
 id:Int
 par:Int
 tag:ByteArray
 key:Int
 text:ByteArray
 ats:List (ByteArray × ByteArray)
def QP (l:List (ByteArray × ByteArray)) (i:Nat):ByteArray:=(l.getD i (ByteArray.empty,ByteArray.empty)).1
def Q6 (l:List (ByteArray × ByteArray)) (i:Nat):ByteArray:=(l.getD i (ByteArray.empty,ByteArray.empty)).2
structure RN extends PN where
 ao:Option Addr
 an:Nat
 ac:Nat
def RN.cells (n:RN):List Value:=[Xi n.id,Xi n.par,.string n.tag,Xi n.key,.slice n.ao n.an n.ac,.string n.text]
def ZS (R:List RN):List Value:=R.flatMap RN.cells
theorem QrP (R a:List RN):ZS (R++a)=ZS R++ZS a:=by unfold ZS;rw [flatMap_append]
theorem QwJ (n:RN):ZS [n]=n.cells:=by unfold ZS;simp
theorem Qot (R:List RN) (i r:Nat) (b:i<R.length) (d:r<6):(ZS R)[i*6+r]?=(R[i]).cells[r]?:=by
 induction R generalizing i with
 | nil=>exact absurd b (Xb7 _)
 | cons a R ih =>
  have e:ZS (a::R)=a.cells++ZS R:=by unfold ZS;rw [flatMap_cons]
  rw [e];cases i with
  | zero=>rw [getElem?_append_left (by show 0*6+r<6;omega)];simp
  | succ i =>
   rw [getElem?_append_right (by show 6<=_;omega)];have c:(i+1)*6+r-a.cells.length=i*6+r:=by show _-6=_;omega
   rw [c,ih i (by simpa using b)];rfl
structure RN.Ok (S:Nat->Prop) (w:World) (n:RN):Prop where
 an:n.an=n.ats.length
 few:n.an<=5
 nil:n.ao=none->n.an=0/\n.ac=0
 tag:n.tag.size<=maxLen
 text:n.text.size<=maxLen
 at':Zn w n.ao n.an (QP n.ats) (Q6 n.ats)
 own:∀ ad,n.ao=some ad->S ad.block/\ad.block<w.heap.size
structure Qq (S:Nat->Prop) (w:World) (p:Nat) (R:List RN) (last:Int) (v:Value):Prop where
 sp:S p
 c0:w.cell? (Xa p 0)=some v
 c1:w.cell? (Xa p 1)=some (Xi 1)
 c2:w.cell? (Xa p 2)=some (Xi last)
 f0:w.frozen? (Xa p 0)=false
 f2:w.frozen? (Xa p 2)=false
 row:w.ownsRow 0 91 6 v R.length (ZS R)
 srow:∀ g,v.ownBlock=some g->S g/\g≠p
 few:R.length<=800
 node:∀ n,n ∈ R->n.Ok S w
 apart:∀ n,n ∈ R->∀ ad,n.ao=some ad->ad.block≠p/\some ad.block≠v.ownBlock
theorem RN.Ok.mono {n:RN} (a:n.Ok S w) (d:∀ b,b<w.heap.size->S b->S' b):n.Ok S' w := ⟨a.an,a.few,a.nil,a.tag,a.text,a.at',λc e=>⟨d _ (a.own c e).2 (a.own c e).1,(a.own c e).2⟩⟩
theorem RN.Ok.below {S:Nat->Prop} {w w':World} {n:RN} (a:n.Ok S w) (b:Xb w w'):n.Ok S w' := ⟨a.an,a.few,a.nil,a.tag,a.text,a.at'.below b,λc e=>⟨(a.own c e).1,Xb4 (a.own c e).2 b.size⟩⟩
variable {R : List RN}
theorem Qq.lt (a:Qq S w p R last v):p<w.heap.size:=block_lt_of_cell a.c0
theorem QX (c:w.ownsRow base e size v n xs) (a:Xb w w'):w'.ownsRow base e size v n xs := c.kept (row:=none) ⟨a.os,a.tape,a.output,a.size,λk b _=>a.block k b⟩ (by cases d:v.ownBlock<;>simp)
theorem Qq.below {S:Nat->Prop} {w w':World} {p:Nat} {R:List RN} {last:Int} {v:Value} (a:Qq S w p R last v) (b:Xb w w'):Qq S w' p R last v:=by have c:=a.lt;exact ⟨a.sp,(Xh b p _ c).trans a.c0,(Xh b p _ c).trans a.c1,(Xh b p _ c).trans a.c2, (Xj b p _ c).trans a.f0,(Xj b p _ c).trans a.f2,QX a.row b,a.srow,a.few,λn d=>(a.node n d).below b,a.apart⟩
def Qk (R:List RN) (id:Int):Int:=match R.findIdx? (λn=>n.id==id) with|some k=>(k:Int)|none=>-1
theorem Qnw (c:k<R.length) (d:R[k].id=id) (b:∀ j,(a:j<R.length)->j<k->R[j].id≠id):Qk R id=k:=by
 unfold Qk;have:R.findIdx? (λn=>n.id==id)=some k:=by rw [findIdx?_eq_some_iff_getElem];refine ⟨c,by simp [d],λj a=>?_⟩;simpa using b j (by omega) a
 rw [this]
theorem Qmv (b:∀ j,(a:j<R.length)->R[j].id≠id):Qk R id=-1:=by
 unfold Qk;have:R.findIdx? (λn=>n.id==id)=none:=by rw [findIdx?_eq_none_iff];intro x c;obtain ⟨j,a,rfl⟩:=Xa3 c;simpa using b j a
 rw [this]
theorem Qq.at (b:Qq S w p R last v) (l:0<R.length) : ∃ g a,v=Xe g R.length a/\R.length<=a/\g<w.heap.size/\S g/\g≠p/\∀ i r,(c:i<R.length)->r<6->w.cell? (Xa g (i*6+r))=(R[i]).cells[r]?:=by
 rcases b.row.2 with ⟨_,e⟩|⟨g,a,k,rfl,_,f,h,_⟩
 ·omega
 have d:=b.srow g rfl;refine ⟨g,a,rfl,h,(Xd0.1 f).1,d.1,d.2,λi r c j=>?_⟩;rw [b.row.cellAt (i*6+r) (by omega),Qot R i r c j]
theorem Qq.nil (b:Qq S w p R last v):∃ ao a,v=.slice ao R.length a:=by
 rcases b.row.2 with ⟨rfl,e⟩|⟨g,a,c,rfl,_,d,f,_⟩
 ·exact ⟨none,0,by rw [e]⟩
 exact ⟨_,a,rfl⟩
theorem QbP S p R last v (id:Int) w (a:Qq S w p R last v) : Xl 49 #[Xp p,Xi id] w λe w'=>e=.returned (Xi (Qk R id))/\w'=w:=by
 obtain ⟨ao,q,rfl⟩:=a.nil;have n:=a.few;have t:=a.c0;have m:=Qa a;clear a;go_enter Tryz.func49,Tryz.ntmps49;go_wp2;go_loopw [5] (λi wr=>∃ k:Nat,k<=R.length/\i=Xi k/\Hid (∀ j,(d:j<R.length)->j<k->R[j].id≠id)/\wr=w) (λi _=>R.length-(intOf i).toNat);·exact ⟨0,X3,rfl,Qa (λ_ _ a=>absurd a (Xb7 _)),rfl⟩
 case round =>
  obtain ⟨k,u,rfl,b,rfl⟩:=hrel;by_cases h:k<R.length
  ·obtain ⟨g,o,e,r,x,_,_,f⟩:=m.out.at (by omega);cases e;have y:Xc wr g (k*6) (Xi R[k].id):=f k 0 h (by omega);clear f;by_cases l:R[k].id=id
   ·have c:=Qa (Qnw h l b.out);clear b;go_wp2;go_ret;exact ⟨Qge c.out.symm,rfl⟩
   have c:=Qa b.out;clear b;go_wp2;go_roundw
   ·refine ⟨k+1,by omega,by go_num,Qa (λj d s=>?_),trivial⟩;by_cases e:j=k
    ·subst e;assumption
    exact c.out j d (by omega)
   simp [intOf];omega
  have c:=Qa (Qmv (R:=R) (id:=id) (λj d=>b.out j d (by omega)));clear b;go_wp2;go_ret;exact ⟨Qge c.out.symm,rfl⟩
end
section
variable {Q:Exit->Act->World->Prop} {id:Int} {i k:Nat} {v v':Value} {w w':World}
variable {R:List RN}
theorem JO (b a j:Nat):((Xa b a):Addr).add j=(Xa b (a+j)):=by
 unfold Addr.add;split
 ·next c=>subst c;rfl
 rfl
def ZV (w w':World) (v a:Value):Prop:=(a.ownBlock=v.ownBlock/\w.grownBy w' v.ownBlock/\w'.heap.size=w.heap.size) \/ (a.ownBlock=some w.heap.size/\w.grownBy w' none)
theorem ZV.by {w w':World} {v b:Value} (a:ZV w w' v b):w.grownBy w' v.ownBlock:=by
 rcases a with ⟨_,a,_⟩|⟨_,a⟩
 ·exact a
 exact ⟨a.os,a.tape,a.output,a.size,λk c _=>a.block k c (by simp)⟩
theorem ZV.size {w w':World} {v a:Value} (b:ZV w w' v a):w.heap.size<=w'.heap.size:=b.by.size
theorem ZV.at (a:ZV w w' v v'):v'.ownBlock=v.ownBlock \/ v'.ownBlock=some w.heap.size:=a.imp (·.1) (·.1)
theorem Qmg {P:Program} (w:World) (base:Nat) (t ty e:TypeId) (i:TypeInfo) (x:Value) (size G:Nat) (q:P.underlying t=some (.slice e)) (r:P.info? e=some i) (K:i.zero=some x) (O:i.size=size) (W:i.bytes=G) (X:x.cells.size=size) (v:Value) (n:Nat) (d:List Value) (o:w.ownsRow base e size v n d) (ao:Option Addr) (m c:Nat) (b:List Value) (R:ao=none->m=0/\c=0) (f:b.length=m*size) (l:∀ a,ao=some a->∀ j u,b[j]?=some u->w.cell? (a.add j)=some u) (a3:∀ u ∈ b,u.oneCell'=true) (a6:n+m<=9223372036854775807) (F:(n+m)*G<=140737488355328) (S:base<=w.heap.size) : ∃ A w',(Builtin.append_ #[t,t] ty #[v,.slice ao m c]).run P w=.ok A w'/\w'.ownsRow base e size A (n+m) (d++b)/\ZV w w' v A /\ (A=Xv↔v=Xv/\m=0):=by
 subst O W;have U:n+m<=maxLen:=by unfold maxLen;omega
 have z:=o.1;have y:(d++b).length=(n+m)*i.size:=by rw [length_append,z,f,Nat.add_mul]
 cases ao with
 | none =>obtain ⟨rfl,rfl⟩:=R rfl;have C:b=[]:=eq_nil_of_length_eq_zero (by simpa using f);subst C;refine ⟨v,w,run_append_owned_none w base t ty e i i.size q r v n d o,by simpa using o,.inl ⟨rfl,World.grownBy.refl _ _,rfl⟩,by simp⟩
 | some a =>
  have l:=l a rfl;have H:∀ h,h<n+m->(w.drew.alloc (.cells (d.toArray++b.toArray++Builtin.zeroCells x.cells (grownCap w (n+m) h e-(n+m))) e)).ownsRow base e i.size (Xe w.heap.size (n+m) (grownCap w (n+m) h e)) (n+m) (d++b):=by
   intro h _;have Y:=grownCap_ge w (n+m) h e;refine ⟨y,.inr ⟨w.heap.size,_,_,rfl,S,Xc5 w.drew _,Y,grownCap_le_maxLen w (n+m) h e U,?_,?_⟩⟩
   ·rw [Array.size_append,Array.size_append,size_zeroCells,X,size_toArray,size_toArray,z,f,<- Nat.add_mul,<- Nat.add_mul];congr 1
    omega
   rw [<- y,Array.toList_append,Array.toList_append];exact take_left
  have I:∀ N:Obj,w.grownBy (w.drew.alloc N) none:=λN=>⟨rfl,rfl,rfl,by simp,λk E _=>heap_alloc_old w.drew _ E⟩;rcases o.2 with ⟨rfl,rfl⟩|⟨g,p,D,rfl,a0,L,a7,a1,a2,T⟩
  ·have a4:d=[]:=eq_nil_of_length_eq_zero (by simpa using z);subst a4;by_cases M:m=0
   ·subst M;have C:b=[]:=eq_nil_of_length_eq_zero (by simpa using f);subst C;refine ⟨Xv,w,?_,Xc0 w base e i.size,.inl ⟨rfl,World.grownBy.refl _ _,rfl⟩,by simp⟩;simp [Builtin.append_,run_underlying q,sizeOf,typeInfo,r,Builtin.lenOf,Builtin.firstCells,loadCells,loadCellsFrom]
   have s:=run_append_nil (P:=P) w t ty e i x q r K a m c b f l (by omega) (by omega) (by have a5:=F;simp only [Nat.zero_add] at a5;omega);have J:=H 0 (by omega);simp only [Nat.zero_add,nil_append,Array.empty_append] at J ⊢;exact ⟨_,_,s,J,.inr ⟨rfl,I _⟩,by simp [M]⟩
  by_cases B:n+m<=p
  ·have V:n*i.size+b.length<=D.size:=by rw [f,a2,<- Nat.add_mul];exact Nat.mul_le_mul_right _ B
   have s:=run_append_room (P:=P) w t ty e i q r g n p D L a m c b f l a3 B V;refine ⟨_,_,s,⟨y,.inr ⟨g,p,_,rfl,a0,setRow_heap w g D _ e _ L,B,a1,?_,?_⟩⟩,.inl ⟨rfl,⟨rfl,rfl,rfl,by simp,λk _ E=>setRow_other w g k _ (λe=>E (by simp [Value.ownBlock,e]))⟩,by simp⟩,by simp⟩
   ·simp only [size_toArray,length_append,length_take,length_drop,Array.length_toList];omega
   rw [T,<- y];exact take_left
  have s:=run_append_grow (P:=P) w t ty e i x q r K (Xa g 0) n p d z (o.cells (g:=g) rfl) a m c b f l (by omega) (by omega) (growslice_fits (by omega) F);exact ⟨_,_,s,H p (by omega),.inr ⟨rfl,I _⟩,by simp⟩
theorem Zp {P:Program} (w:World) {o:Array Oper} {l:List Oper} {f:Oper} {a:Act} (B:f.guard=none) (s x:Operand) (t:TypeId) (F:f.op=.call { callee:=.builtin .append,args:=#[s,x],argTypes:=#[t,t] }) (base:Nat) (e:TypeId) (i:TypeInfo) (k:Value) (size g:Nat) (G:P.underlying t=some (.slice e)) (H:P.info? e=some i) (I:i.zero=some k) (q:i.size=size) (C:i.bytes=g) (D:k.cells.size=size) (v:Value) (n:Nat) (h:List Value) (J:a.eval s=v) (A:w.ownsRow base e size v n h) (ao:Option Addr) (m c:Nat) (d:List Value) (L:a.eval x=.slice ao m c) (r:ao=none->m=0/\c=0) (M:d.length=m*size) (y:∀ a,ao=some a->∀ j u,d[j]?=some u->w.cell? (a.add j)=some u) (N:∀ u ∈ d,u.oneCell'=true) (E:n+m<=9223372036854775807) (p:(n+m)*g<=140737488355328) (z:base<=w.heap.size) (V:∀ b w',Hid (w'.ownsRow base e size b (n+m) (h++d))->Hid (ZV w w' v b)->Hid (b=Xv↔v=Xv/\m=0)->wpList P o Q l (a.put f.dst b) w'):wpList P o Q (f::l) a w:=by refine wpList_plain B λK O=>?_;obtain ⟨b,w',R,S,T,U⟩:=Qmg (P:=P) w base t f.type e i k size g G H I q C D v n h A ao m c d r M y N E p z;unfold Oper.wp execOp;simp only [F,resolve,invoke,builtin,Sem.run_bind,Sem.run_pure,Result.andThen_ok,map_toArray,map_cons,map_nil,J,L,R];exact O _ _ (V b w' (Qa S) (Qa T) (Qa U))
theorem Q3 (w:World) (b:Array Value) (t:TypeId):∀ a,some ((Xa w.heap.size 0):Addr)=some a->∀ j u,b.toList[j]?=some u->(w.alloc (.cells b t)).cell? (a.add j)=some u:=by intro a e j u c;cases e;rw [JO,cell_of_row _ _ _ b t (0,0) (heap_alloc_new w _)];simpa using c
def QaM (R:List RN) (i:Nat):Int:=match R[i]? with|some n=>n.par|none=>0
def QaD (R:List RN) (id:Int) (k:Nat):List Nat:=(List.range k).filter λi=>QaM R i==id
def Qn (R:List RN) (id:Int):List Nat:=if id=0 then [] else QaD R id R.length
theorem QkW (a:QaM R k=id):QaD R id (k+1)=QaD R id k++[k]:=by unfold QaD;rw [range_succ,filter_append];simp [a]
theorem Qlb (a:¬ QaM R k=id):QaD R id (k+1)=QaD R id k:=by unfold QaD;rw [range_succ,filter_append];simp [a]
theorem QhI (R:List RN) (id:Int) (k:Nat):(QaD R id k).length<=k:=by unfold QaD;have:=length_filter_le (λi=>QaM R i==id) (List.range k);simpa using this
theorem Qbs (a:i<R.length):QaM R i=R[i].par:=by unfold QaM;rw [getElem?_eq_getElem a]
def Jb (l:List Nat):List Value:=l.map λ(i:Nat)=>Value.int .i64 (i:Int)
theorem Qmn (l:List Nat):∀ u ∈ Jb l,u.oneCell'=true:=by intro u a;obtain ⟨_,_,rfl⟩:=Xa5.1 a;rfl
theorem QlR (l:List Nat) (k:Nat):Jb (l++[k])=Jb l++[Xi k]:=by unfold Jb;simp
theorem Qar (l:List Nat):(Jb l).length=l.length:=by unfold Jb;simp
theorem QbF:(Tryz.prog.info? 3).map (λi=>(i.zero,i.size,i.bytes))=some (some (Xi 0),1,8):=by kernel_rfl
def Q0 (w:World) (B:Nat) (v:Value) (l:List Value):Prop:=w.ownsRow B 3 1 v l.length l
theorem Qm2 S p R last v (id:Int) w (c:Qq S w p R last v) : Xl 67 #[Xp p,Xi id] w λe w'=>∃ r,e=.returned r/\Q0 w' w.heap.size r (Jb (Qn R id))/\Xb w w':=by
 obtain ⟨D,E,x,y,z⟩:=info_parts QbF;obtain ⟨ao,O,rfl⟩:=c.nil;have M:=c.few;have F:=c.lt;have G:=c.c0;have L:=Qa c;clear c;by_cases n:id=0
 ·subst n;have f:=Qa (show Qn R 0=[] by simp [Qn]);go_enter Tryz.func67,Tryz.ntmps67;by_cases T:0<R.length;all_goals
   go_wp2;go_loopw [5,6] (λl i wr=>l=Xv/\i=Xi 0/\wr=w) (λ_ i _=>1);·exact ⟨rfl,rfl,rfl⟩
   case round =>obtain ⟨rfl,rfl,rfl⟩:=hrel;go_wp2;go_ret;refine ⟨_,rfl,?_,X4⟩;rw [f.out];exact Xc0 _ _ _ _
 have f:=Qa (show Qn R id=QaD R id R.length by simp [Qn,n]);go_enter Tryz.func67,Tryz.ntmps67;go_wp2;go_loopw [5,6] (λl i wr=>∃ (k:Nat) (q:Value),k<=R.length/\i=Xi k/\q=l/\Hid (Q0 wr w.heap.size q (Jb (QaD R id k)))/\Xb w wr) (λ_ i _=>R.length-(intOf i).toNat);·exact ⟨0,_,X3,rfl,rfl,Qa (show Q0 _ _ _ (Jb []) from Xc0 _ _ _ _),X4⟩
 case round =>
  obtain ⟨k,q,U,rfl,rfl,a,b⟩:=hrel;have V:=(Xh b p 0 F).trans G;by_cases d:k<R.length
  ·obtain ⟨g,N,e,P,H,_,_,m⟩:=L.out.at (by omega);cases e;have W:Xc wr g (k*6+1) (Xi R[k].par):=(Xh b g (k*6+1) H).trans (m k 1 d (by omega));clear m;by_cases o:R[k].par=id
   ·have h:=Qa (QkW (k:=k) ((Qbs d).trans o));have X:=QhI R id k;have A:=b.size;go_wp2_with ((at_builtin;refine Zp _ rfl (.tmp 30) (.tmp 32) 69 rfl w.heap.size 3 D (Xi 0) 1 8 Tryz.underlying69 E x y z rfl q _ _ rfl (a.out.alloc _) (some (Xa wr.heap.size 0)) 1 1 [Xi k] rfl (by simp) rfl (Q3 _ _ _) (Qmn [k]) (by rw [Qar];omega) (by rw [Qar];omega) (by simp;omega) ?_;intro I w1 s t _));have B:=(b.alloc A (.cells #[Xi k] 3)).grown t.out.by (by simp;omega) (λj J=>(World.ownsRow.lt (Qb a) j J).1);have u:Q0 w1 w.heap.size I (Jb (QaD R id (k+1))):=by have:=s.out;unfold Q0;rw [h.out,QlR,length_append];exact this
    have K:=Qa u;clear s t u a;go_wp2;go_roundw;·exact ⟨k+1,_,by omega,by go_num,rfl,K,B⟩
    simp [intOf];omega
   have h:=Qa (Qlb (k:=k) (λe=>o ((Qbs d).symm.trans e)));rw [<- h.out] at a;go_wp2;go_roundw;·exact ⟨k+1,_,by omega,by go_num,rfl,a,b⟩
   simp [intOf];omega
  have C:k=R.length:=by omega
  subst C;go_wp2;go_ret;refine ⟨_,rfl,?_,b⟩;rw [f.out];exact a.out
end
section
variable {d:Int} {W:List (Nat × Int)} {xs:List Value} {B B' a c f i k m n size:Nat} {ao:Option Addr} {e t:TypeId} {kv q' q1 q2 v:Value} {w w' w1 w2 w3 wr:World}
variable {R:List RN}
def Qg (R:List RN) (i:Nat):Int:=match R[i]? with|some n=>n.id|none=>0
theorem QV (a:i<R.length):Qg R i=R[i].id:=by unfold Qg;rw [getElem?_eq_getElem a]
def Qo (R:List RN):Nat->Nat->Int->List (Nat × Int)
 | 0,_,_=>[]
 | f+1,a,d=>(a,d)::(Qn R (Qg R a)).flatMap λk=>Qo R f k (d+1)
def ZF (R:List RN):Nat->Nat->Prop
 | 0,_=>False
 | f+1,a=>a<R.length/\∀ k,k ∈ Qn R (Qg R a)->ZF R f k
def QaS (R:List RN) (f a:Nat) (d:Int) (k:Nat):List (Nat × Int):=(a,d)::((Qn R (Qg R a)).take k).flatMap λc=>Qo R f c (d+1)
theorem Qoi (R:List RN) (f a:Nat) (d:Int):QaS R f a d 0=[(a,d)]:=by unfold QaS;simp
theorem QjA (R:List RN) (f a:Nat) (d:Int):QaS R f a d (Qn R (Qg R a)).length=Qo R (f+1) a d:=by unfold QaS;rw [Qo,take_length]
theorem QiL (b:k<(Qn R (Qg R a)).length):QaS R f a d (k+1)=QaS R f a d k++Qo R f (Qn R (Qg R a))[k] (d+1):=by unfold QaS;rw [take_succ_eq_append_getElem b,flatMap_append,cons_append];simp
theorem Qra (R:List RN) (f a:Nat) (d:Int) (k:Nat):(QaS R f a d k).length<=(Qo R (f+1) a d).length:=by
 rw [<- QjA];by_cases g:k<=(Qn R (Qg R a)).length
 ·have b:∀ m,(QaS R f a d k).length<=(QaS R f a d (k+m)).length:=by
   intro m;induction m with
   | zero=>exact X0
   | succ m ih =>
    by_cases c:k+m<(Qn R (Qg R a)).length
    ·rw [<- Nat.add_assoc,QiL c,length_append];omega
    refine Xb6 ih (Nat.le_of_eq ?_);unfold QaS;rw [take_of_length_le (by omega),take_of_length_le (by omega)]
  have:=b ((Qn R (Qg R a)).length-k);rwa [show k+((Qn R (Qg R a)).length-k)=(Qn R (Qg R a)).length by omega] at this
 unfold QaS;rw [take_of_length_le (by omega),take_of_length_le (by omega)];exact X0
theorem Qu3 (b:k<(Qn R (Qg R a)).length) : (QaS R f a d k).length+(Qo R f (Qn R (Qg R a))[k] (d+1)).length<=(Qo R (f+1) a d).length:=by have:=Qra R f a d (k+1);rwa [QiL b,length_append] at this
def Qbd (a:List (Nat × Int)):List Value:=a.map λx=>Value.int .i64 (x.1:Int)
def QbJ (a:List (Nat × Int)):List Value:=a.map λx=>Value.int .i64 x.2
theorem QcV (a:List (Nat × Int)):(Qbd a).length=a.length:=by unfold Qbd;simp
theorem QeR (a:List (Nat × Int)):(QbJ a).length=a.length:=by unfold QbJ;simp
theorem QpN (a b:List (Nat × Int)):Qbd (a++b)=Qbd a++Qbd b:=by unfold Qbd;simp
theorem Qrf (a b:List (Nat × Int)):QbJ (a++b)=QbJ a++QbJ b:=by unfold QbJ;simp
theorem Qqt (b:List (Nat × Int)):∀ u ∈ Qbd b,u.oneCell'=true:=by intro u a;obtain ⟨_,_,rfl⟩:=Xa5.1 a;rfl
theorem QtS (b:List (Nat × Int)):∀ u ∈ QbJ b,u.oneCell'=true:=by intro u a;obtain ⟨_,_,rfl⟩:=Xa5.1 a;rfl
theorem Q0.shape {l:List Value} (b:Q0 w B v l):∃ ao c,v=.slice ao l.length c/\(ao=none->l.length=0/\c=0):=by
 rcases b.2 with ⟨rfl,e⟩|⟨g,a,d,rfl,_⟩
 ·exact ⟨none,0,by rw [e],λ_=>⟨e,rfl⟩⟩
 exact ⟨_,a,rfl,λe=>by cases e⟩
theorem Q0.some {w:World} {B:Nat} {ao:Option Addr} {n c:Nat} {l:List Value} (a:Q0 w B (.slice ao n c) l) (k:0<l.length):∃ g,ao=some (Xa g 0)/\n<=c/\B<=g/\g<w.heap.size/\∀ j,j<l.length->w.cell? (Xa g j)=l[j]?:=by
 rcases a.2 with ⟨_,e⟩|⟨g,h,i,e,b,d,f,_⟩
 ·omega
 cases e;exact ⟨g,rfl,f,b,(Xd0.1 d).1,λj m=>World.ownsRow.cellAt a j (by omega)⟩
theorem Q0.below {l:List Value} (b:Q0 w B v l) (a:Xb w w'):Q0 w' B v l:=QX b a
theorem Q0.kept {w w':World} {B:Nat} {v:Value} {l:List Value} {row:Option Nat} (c:Q0 w B v l) (b:w.grownBy w' row) (a:v.ownBlock=none \/ v.ownBlock≠row):Q0 w' B v l:=World.ownsRow.kept c b a
theorem Q0.mono {l:List Value} (a:Q0 w B v l) (d:B'<=B):Q0 w B' v l:=by refine ⟨a.1,a.2.imp id ?_⟩;rintro ⟨g,b,c,e,f,r⟩;exact ⟨g,b,c,e,Xb6 d f,r⟩
theorem Q0.src {l:List Value} (h:Q0 w B (.slice ao n c) l):∀ a,ao=Option.some a->∀ j u,l[j]?=Option.some u->w.cell? (a.add j)=Option.some u:=by intro a e j u b;subst e;have d:j<l.length:=(Xd3.1 b).1;obtain ⟨g,e,_,_,_,f⟩:=h.some (by omega);cases e;rw [JO,Nat.zero_add,f j d];exact b
theorem Q0.none {w:World} {B:Nat} {ao:Option Addr} {n c:Nat} {l:List Value} (a:Q0 w B (.slice ao n c) l) (e:ao=Option.none):n=0/\c=0:=by
 rcases a.2 with ⟨e',_⟩|⟨g,b,d,e',_⟩
 ·cases e';exact ⟨rfl,rfl⟩
 cases e';cases e
theorem Q0.of_app {a:List Value} (c:w.ownsRow B 3 1 v (xs.length+m) (xs++a)) (b:m=a.length):Q0 w B v (xs++a):=by subst b;unfold Q0;rw [length_append];exact c
structure QmV (w w':World) (W:List (Nat × Int)) (r1 r2:Value):Prop where
 o1:Q0 w' w.heap.size r1 (Qbd W)
 o2:Q0 w' w.heap.size r2 (QbJ W)
 bel:Xb w w'
structure Qc8 (w wr:World) (kv q1 q2:Value) (K:List Nat) (W:List (Nat × Int)):Prop where
 o1:Q0 wr w.heap.size q1 (Qbd W)
 o2:Q0 wr w.heap.size q2 (QbJ W)
 ok:Q0 wr w.heap.size kv (Jb K)
 n12:q2.ownBlock≠q1.ownBlock
 n1:kv.ownBlock=none \/ kv.ownBlock≠q1.ownBlock
 n2:kv.ownBlock=none \/ kv.ownBlock≠q2.ownBlock
 bel:Xb w wr
theorem QfS (a:w.ownsRow B e size v n xs) {M:Nat} (b:w.heap.size<=M):v.ownBlock≠Option.some M:=by intro e;have:=(a.lt M e).2;omega
theorem Qec {q:Value} (c:ZV w w' q q') (a:v.ownBlock=none \/ v.ownBlock≠q.ownBlock) (b:v.ownBlock≠Option.some w.heap.size):v.ownBlock=none \/ v.ownBlock≠q'.ownBlock:=by
 rcases c.at with e|e
 ·rw [e];exact a
 rw [e];exact .inr b
theorem Qc8.far {r:Value} {K:List Nat} (d:Qc8 w wr kv q1 q2 K W) {l:List Value} (a:Q0 w1 wr.heap.size r l):r.ownBlock=Option.none \/ r.ownBlock≠q1.ownBlock:=by cases c:r.ownBlock with| none=>exact .inl rfl| some b =>refine .inr λe=>?_;have f:=(World.ownsRow.lt a b c).1;have g:=(World.ownsRow.lt d.o1 b e.symm).2;omega
theorem Qc8.step {d g r s:Value} {K:List Nat} {h:List (Nat × Int)} (a:Qc8 w wr kv q1 q2 K W) (t:QmV wr w1 h r s) (k:Q0 w2 w.heap.size d (Qbd (W++h))) (b:ZV w1 w2 q1 d) (p:Q0 w3 w.heap.size g (QbJ (W++h))) (f:ZV w2 w3 q2 g):Qc8 w w3 kv d g K (W++h):=by
 have c:=t.bel;have A:=a.o1.below c;have l:=a.o2.below c;have m:=a.ok.below c;have B:=l.kept b.by (.inr a.n12);have n:=m.kept b.by a.n1;have o:q2.ownBlock≠d.ownBlock:=by
  rcases b.at with e|e
  ·rw [e];exact a.n12
  rw [e];exact QfS l X0
 have u:=Qec b a.n1 (QfS m X0);have v:=Qec f a.n2 (QfS n X0);have x:g.ownBlock≠d.ownBlock:=by
  rcases f.at with e|e
  ·rw [e];exact o
  rw [e];exact Ne.symm (QfS k X0)
 refine ⟨k.kept f.by (.inr (Ne.symm o)),p,n.kept f.by a.n2,x,u,v,?_⟩;have q:=a.bel.size;have y:=a.bel.trans (c.mono q);have z:=y.grown b.by (by have:=c.size;omega) (λj i=>(a.o1.lt j i).1);exact z.grown f.by (by have:=c.size;have:=b.size;omega) (λj i=>(a.o2.lt j i).1)
theorem Qc8.start {K:List Nat} (i:t=3) (f:Below (w.heap.size+2) ((w.alloc (.cells #[Xi a] t)).alloc (.cells #[Xi d] t)) w2) (b:Q0 w2 (w.heap.size+2) kv (Jb K)) : Qc8 w w2 kv (Xe w.heap.size 1 1) (Xe (w.heap.size+1) 1 1) K [(a,d)]:=by
 subst i;have j:=World.ownsRow_lit (base:=w.heap.size) (e:=3) (size:=1) w #[Xi a] 1 X0 (by unfold maxLen;omega) rfl;have h:=j.alloc (.cells #[Xi d] 3);have g:=World.ownsRow_lit (base:=w.heap.size) (e:=3) (size:=1) (w.alloc (.cells #[Xi a] 3)) #[Xi d] 1 (by simp) (by unfold maxLen;omega) rfl;have c:Below ((w.alloc (.cells #[Xi a] 3)).alloc (.cells #[Xi d] 3)).heap.size ((w.alloc (.cells #[Xi a] 3)).alloc (.cells #[Xi d] 3)) w2:=by simpa using f
 have e:(w.alloc (.cells #[Xi a] 3)).heap.size=w.heap.size+1:=by simp
 rw [e] at g;refine ⟨QX h c,QX g c,b.mono (by omega),by simp [Value.ownBlock],?_,?_,?_⟩
 ·refine .inr λe=>?_;have:=(World.ownsRow.lt b w.heap.size e).1;omega
 ·refine .inr λe=>?_;have:=(World.ownsRow.lt b (w.heap.size+1) e).1;omega
 exact (((Below.refl w.heap.size w).alloc X0 _).alloc (by simp) _).trans (f.mono (by omega))
theorem Qhu (S:Nat->Prop) (p:Nat) (R:List RN) (last:Int) (v:Value):∀ (f a:Nat) (d:Int) (w:World),ZF R f a->0<=d->d+f<=1099511627776->(Qo R f a d).length<=1099511627776->Qq S w p R last v -> Xl 48 #[Xp p,Xi a,Xi d] w λe w'=>∃ m n o q,e=.returned (.tuple #[.slice m (Qo R f a d).length n,.slice o (Qo R f a d).length q]) /\ QmV w w' (Qo R f a d) (.slice m (Qo R f a d).length n) (.slice o (Qo R f a d).length q):=by
 obtain ⟨P,T,D,E,F⟩:=info_parts QbF;intro f;induction f with
 | zero=>intro a d w j;exact absurd j (by simp [ZF])
 | succ f ih =>
  intro a d w Y al ap C j;obtain ⟨G,H⟩:=Y;obtain ⟨g,a1,rfl,aq,aB,_,_,B⟩:=j.at (by omega);have aC:=j.lt;have a0:=j.few;have aD:=j.c0;have aE:Xc w g (a*6) (Xi R[a].id):=B a 0 G (by omega);have U:=Qa j;have a5:=Qa C;have a6:=Qa H;have a7:=Qa ih;clear j B C H ih;have a8:=Qa (QV G);have V:∀ w,Qq S w p R last (Xe g R.length a1)->Xl 67 #[Xp p,Xi R[a].id] w λe w' => ∃ ao c,e=.returned (.slice ao (Qn R (Qg R a)).length c)/\Q0 w' w.heap.size (.slice ao (Qn R (Qg R a)).length c) (Jb (Qn R (Qg R a)))/\Xb w w':=by intro w z;refine (Qm2 S p R last _ R[a].id w z).mono ?_;rintro e w' ⟨r,rfl,x,a9⟩;rw [<- a8.out] at x;obtain ⟨ao,c,rfl,_⟩:=x.shape;rw [Qar] at x ⊢;exact ⟨ao,c,rfl,x,a9⟩
  have aa:=Qa V;clear V;go_enter Tryz.func48,Tryz.ntmps48;go_wp2_with (go_at_call 67;refine (Qb aa _ ((Qb U).below Xn)).mono ?_;rintro e w2 ⟨ab,ac,rfl,I,y⟩);have ad:=Qa (Qc8.start (a:=a) (d:=d) (t:=3) rfl (by simpa using y) (by simpa using I));clear I y;go_wp2_with (fail);go_loopw [8,9,11,12,13] (λae af i _ _ wr=>∃ (k:Nat) (q1 q2:Value),k<=(Qn R (Qg R a)).length/\i=Xi k/\q1=ae/\q2=af/\Hid (Qc8 w wr (.slice ab (Qn R (Qg R a)).length ac) q1 q2 (Qn R (Qg R a)) (QaS R f a d k))) (λ_ _ i _ _ _=>(Qn R (Qg R a)).length-(intOf i).toNat);·exact ⟨0,_,_,X3,rfl,rfl,rfl,by rw [Qoi];exact ad⟩
  case round =>
   obtain ⟨k,q1,q2,aF,rfl,rfl,rfl,b⟩:=hrel;have ar:(Qn R (Qg R a)).length<=800:=by
    unfold Qn;split
    ·simp
    exact Xb6 (QhI _ _ _) a0
   by_cases u:k<(Qn R (Qg R a)).length
   ·obtain ⟨ag,rfl,au,aj,ak,J⟩:=b.out.ok.some (by rw [Qar];omega);have aG:wr.cell? (Xa ag k)=some (Xi ((Qn R (Qg R a))[k]:Nat)):=by rw [J k (by rw [Qar];omega)];unfold Jb;rw [getElem?_map,getElem?_eq_getElem u];rfl
    have a2:=Qu3 (R:=R) (f:=f) (a:=a) (d:=d) u;have ah:=Qa (QiL (R:=R) (f:=f) (a:=a) (d:=d) u);have a3:=a5.out;have W:=Qa (λw z=>a7.out (Qn R (Qg R a))[k] (d+1) w (a6.out _ (Xa0 u)) (by omega) (by omega) (by omega) z);have K:=Qa (U.out.below b.out.bel);have av:=b.out.bel.size;clear J;generalize (Qn R (Qg R a))[k]=a4 at *;generalize Qo R f a4 (d+1)=l at *;have aw:(Qbd (QaS R f a d k)).length+l.length<=1099511627776:=by rw [QcV];omega
    have y:(QbJ (QaS R f a d k)).length+l.length<=1099511627776:=by rw [QeR];omega
    clear a2 a3;go_wp2_with (first|(go_at_call 48;refine (Qb W _ (Qb K)).mono ?_;rintro e w1 ⟨m,n,o,q,rfl,A⟩;have h:=Qa A;have ax:=A.bel.size;clear A)|(at_builtin;refine Zp _ rfl (.tmp 45) (.tmp 46) 69 rfl w.heap.size 3 P (Xi 0) 1 8 Tryz.underlying69 T D E F rfl q1 _ _ rfl ((Qb b).o1.below (Qb h).bel) m l.length n (Qbd l) rfl (Qb h).o1.none (by rw [QcV,Nat.mul_one]) (Qb h).o1.src (Qqt _) (by omega) (by omega) (by omega) ?_;intro ay w2 L s _;have az:=(Qb s).size)|(at_builtin;refine Zp _ rfl (.tmp 48) (.tmp 49) 69 rfl w.heap.size 3 P (Xi 0) 1 8 Tryz.underlying69 T D E F rfl q2 _ _ rfl (((Qb b).o2.below (Qb h).bel).kept (Qb s).by (.inr (Qb b).n12)) o l.length q (QbJ l) rfl (Qb h).o2.none (by rw [QeR,Nat.mul_one]) ((Qb h).o2.kept (Qb s).by ((Qb b).far (Qb h).o2)).src (QtS _) (by omega) (by omega) (by omega) ?_;intro aA w3 M N _));have X:=Qa (b.out.step h.out (by rw [QpN];exact Q0.of_app L.out (QcV l).symm) s.out (by rw [Qrf];exact Q0.of_app M.out (QeR l).symm) N.out);rw [<- ah.out] at X;clear L s M N h b K W;go_wp2_with (fail);go_roundw;·exact ⟨k+1,_,_,by omega,by go_num,rfl,rfl,X⟩
    simp [intOf];omega
   have O:k=(Qn R (Qg R a)).length:=by omega
   have ai:Hid (QaS R f a d k=Qo R (f+1) a d):=Qa (by rw [O];exact QjA R f a d);rw [ai.out] at b;obtain ⟨m,n,rfl,_⟩:=b.out.o1.shape;obtain ⟨o,q,rfl,_⟩:=b.out.o2.shape;rw [QcV,QeR] at *;clear O;go_wp2_with (fail);go_ret2;exact ⟨m,n,o,q,rfl,b.out.o1,b.out.o2,b.out.bel⟩
end
end Go.Proofs.YtobgcaemnpkbmaaGreat
