import Derived.Test.YtobgcaemnpkbmaaGreatY02
import Derived.Lib.Strings
import Derived.Lib.Walk
import Derived.Lib.BufferWrite
import Derived.Lib.UnsafeStr
import Derived.Lib.Hide
import Derived.Laws.MakeOwn
import Derived.LaidEqlPtr
import Derived.Deep.AppendLies
import Derived.Deep.DrawnRows
namespace Go.Proofs.YtobgcaemnpkbmaaGreat
set_option maxRecDepth 100000
set_option maxHeartbeats 8000000
open Go.RowKit List
variable {d:Int} {l:List (ByteArray × ByteArray)} {W:List (Nat × Int)} {R:List RN} {xs:List Value} {B B' a b base c f j k n size:Nat} {vl:Nat->ByteArray} {S S':Nat->Prop} {ao:Option Addr} {e:TypeId} {q' v:Value} {w w' w1 w2:World}
theorem QrY:(Tryz.prog.info? 5).map (λi=>(i.zero,i.size,i.bytes))=some (some (.int .u8 0),1,1):=by kernel_rfl
theorem Qrv (s:ByteArray) (w:World) (D:s.size<=281474976710656) : Xl 100 #[.string s] w λe w'=>e=.returned (.string s)/\Xb w w':=by
 by_cases l:s.size=0
 ·have B:s=⟨#[]⟩:=by apply ByteArray.ext;exact Array.eq_empty_of_size_eq_zero l
  subst B;go_enter Tryz.func100,Tryz.ntmps100;go_wp2;go_ret;exact ⟨rfl,X4⟩
 obtain ⟨m,d,q,c,r⟩:=info_parts QrY;have o:(Tryz.prog.info? 5).map (·.size)=some 1:=by rw [d];simp [c]
 have t:(Tryz.prog).cellsOf 5=1:=by simp [Program.cellsOf,d,c]
 obtain ⟨M,f⟩:∃ M,M=madeCells (Value.int .u8 0).cells (((s.size:Nat):Int).toNat*m.size):=⟨_,rfl⟩;have E:M.size=s.size:=by rw [f,size_madeCells,c];simp
 have F:∀ b:World,(Instr.makeSlice 179 (Xi (s.size:Int)) (Xi (s.size:Int))).run Tryz.prog b=.ok (Xe b.heap.size s.size s.size) (b.alloc (.cells M 5)):=λb=>by have n:=run_make (P:=Tryz.prog) b 179 5 m (.int .u8 0) Tryz.underlying179 d q .i64 .i64 (s.size:Int) (s.size:Int) (by omega) (by omega) (by rw [r];omega) (by omega);rw [<- f] at n;simpa using n
 clear f;have u:=Lib.run_copy_row_string (P:=Tryz.prog) (w.alloc (.cells M 5)) 179 9 3 5 w.heap.size 0 s.size s.size s M 5 Tryz.underlying179 o (Xc5 w _) X0 (by omega);obtain ⟨a,g⟩:∃ a,a=(M.toList.take 0++Lib.byteCells s.data.toList++M.toList.drop (0+s.size)).toArray:=⟨_,rfl⟩;rw [<- g] at u;have h:a.toList=Lib.byteCells s.data.toList:=by rw [g,toList_toArray,take_zero,nil_append,drop_of_length_le (by rw [Array.length_toList];omega),append_nil]
 have G:a.size=s.size:=by rw [<- Array.length_toList,h,Lib.byteCells_length,<- Lib.size_eq]
 have i:((w.alloc (.cells M 5)).setRow w.heap.size a).heap[w.heap.size]?=some (.cells a 5 (0,0)):=setRow_heap _ _ M _ 5 (0,0) (Xc5 w _);have v:s.data.toList≠[]:=λe=>l (by rw [Lib.size_eq,e];rfl);have y:=Lib.run_unsafeString_row (P:=Tryz.prog) ((w.alloc (.cells M 5)).setRow w.heap.size a) 180 3 9 5 Tryz.underlying180 t w.heap.size a.size (by unfold World.shape?;rw [i]) s.data.toList v (by rw [<- Lib.size_eq];omega) (by rw [<- Lib.size_eq];omega) (λj x C=>Lib.cells_of_row i a.size j _ (by rw [take_of_length_le (by rw [Array.length_toList];exact X0),h];simp [Lib.byteCells,C]));rw [<- Lib.size_eq] at y;clear g;go_enter Tryz.func100,Tryz.ntmps100;go_wp2;go_ret;have z:Xb w (w.alloc (.cells M 5)):=(Below.refl _ w).alloc X0 _;have A:Below w.heap.size (w.alloc (.cells M 5)) ((w.alloc (.cells M 5)).setRow w.heap.size a):=⟨rfl,rfl,rfl,by simp,λk H=>setRow_other _ _ _ _ (by omega)⟩;exact ⟨rfl,Lib.below_freeze (z.trans A) (p:=(Xa w.heap.size 0)) X0 _⟩
theorem QuZ (s:ByteArray) (w:World) (a:s.size<=281474976710656) : Xl 81 #[.string s] w λe w'=>e=.returned (.string s)/\Xb w w':=by go_enter Tryz.func81,Tryz.ntmps81;go_wp2_with (first|(go_at_call 100;refine (Qrv s _ a).mono ?_;rintro e w1 ⟨rfl,b⟩));go_ret;exact ⟨rfl,b⟩
theorem Qc5 (s:ByteArray) (w:World) (a:s.size<=281474976710656) : Xl 63 #[.string s] w λe w'=>e=.returned (.string s)/\Xb w w':=by go_enter Tryz.func63,Tryz.ntmps63;go_wp2_with (first|(go_at_call 81;refine (QuZ s _ a).mono ?_;rintro e w1 ⟨rfl,b⟩));go_ret;exact ⟨rfl,b⟩
def J7 (w:World) (b:Nat):Prop:=∃ c t,w.heap[b]?=some (.cells c t (0,0))
theorem QuV:(Tryz.prog.info? 138).map (λi=>(i.zero,i.size,i.bytes))=some (some (.agg #[Xi 0,Xi 0,Xo,Xo,Xv,.pointer none,Xv]),7,104):=by kernel_rfl
theorem QcP (c:J7 w a) (d:J7 w b):(binOp .eql 112 (Xp a) (Xp b)).run Tryz.prog w=.ok (.bool (a==b)) w:=by
 obtain ⟨i,g,_,h,_⟩:=info_parts QuV;by_cases f:a=b
 ·subst f;rw [run_eql_ptr_same w _ Tryz.underlying112 g];simp
 obtain ⟨j,k,c⟩:=c;obtain ⟨l,m,d⟩:=d;rw [run_eql_ptr_other w Tryz.underlying112 g (by omega) (λe=>f (by cases e;rfl)) c d];simp [f]
theorem QnN (f:J7 w a) (g:J7 w b):(binOp .neq 112 (Xp a) (Xp b)).run Tryz.prog w=.ok (.bool (a !=b)) w:=by
 have c:=QcP f g;simp only [binOp] at c ⊢;simp only [Sem.run_bind] at c ⊢;cases d:(Op.equal 112 (Xp a) (Xp b)).run Tryz.prog w with
 | ok v w' =>rw [d] at c;simp at c;obtain ⟨rfl,rfl⟩:=c;simp [bne]
 | _=>rw [d] at c;simp [Result.andThen] at c
theorem QkK (g n c:Nat) (K:List Nat) (x:Nat) (w:World) (p:n=K.length) (y:n<=1099511627776) (k:Nat) (A:k<n) (d:K[k]?=some x) (l:∀ j,j<k->K[j]?≠some x) (q:∀ j a,K[j]?=some a->w.cell? (Xa g j)=some (Xp a)) (f:∀ a,a ∈ K->J7 w a) : Xl 64 #[Xe g n c,Xp x] w λe w'=>e=.returned (Xi k)/\w'=w:=by
 have r:J7 w x:=f x (Xb0 d);have s:=Qa q;have t:=Qa f;have u:=Qa l;have v:=Qa p;clear q f l p;go_enter Tryz.func64,Tryz.ntmps64;go_wp2;go_loopw [8] (λi wr=>∃ j:Nat,j<=k/\i=Xi j/\wr=w) (λi _=>n-(intOf i).toNat);·exact ⟨0,X3,rfl,rfl⟩
 case round =>
  obtain ⟨j,B,rfl,rfl⟩:=hrel;have m:j<K.length:=by have:=v.out;omega
  have h:=Xa1 m;have C:=s.out j _ h;have o:=QcP r (t.out _ (Xa0 m));have z:j<n:=by omega
  by_cases e:j=k
  ·subst e;have b:x=K[j]:=by rw [h] at d;exact (Xb5 d).symm
   rw [b,beq_self_eq_true] at o;subst b;go_wp2;go_ret;exact ⟨rfl,rfl⟩
  have b:(x==K[j])=false:=by have:=u.out j (by omega);rw [h] at this;simp;exact λe=>this (by rw [e])
  rw [b] at o;go_wp2;go_roundw;·exact ⟨j+1,by omega,by go_num,trivial⟩
  simp [intOf];omega
structure Qi (S:Nat->Prop) (w w':World):Prop where
 os:w'.os=w.os
 tape:w'.tape=w.tape
 output:w'.output=w.output
 size:w.heap.size<=w'.heap.size
 block:∀ k,k<w.heap.size->¬ S k->w'.heap[k]?=w.heap[k]?
theorem Qi.of_below (a:Xb w w'):Qi S w w':=⟨a.os,a.tape,a.output,a.size,λk b _=>a.block k b⟩
theorem Qi.trans {S:Nat->Prop} {a b c:World} (d:Qi S a b) (k:Qi (λb=>S b \/ a.heap.size<=b) b c):Qi S a c := ⟨k.os.trans d.os,k.tape.trans d.tape,k.output.trans d.output,Xb6 d.size k.size,λi f g=>(k.block i (Xb4 f d.size) (λe=>by rcases e with e|e;exact g e;omega)).trans (d.block i f g)⟩
theorem Qi.mono (a:Qi S w w') (d:∀ b,b<w.heap.size->S b->S' b):Qi S' w w':=⟨a.os,a.tape,a.output,a.size,λk c f=>a.block k c (λe=>f (d k c e))⟩
theorem Qi.set (b:Qi S w w') {a:Addr} (c:S a.block \/ w.heap.size<=a.block) (u:Value):Qi S w (w'.setCell a u) := ⟨b.os,b.tape,b.output,by simpa [World.setCell] using b.size,λk f d=>(Below.heap_setCell w' a u k (λe=>by rcases c with c|c;exact d (by rw [e];exact c);omega)).trans (b.block k f d)⟩
theorem Qre:(Tryz.prog.info? 72).map (λi=>(i.zero,i.size,i.bytes))=some (some (.agg #[Xo,Xo]),2,32):=by kernel_rfl
theorem QsN:(Tryz.prog.info? 72).map (·.size)=some 2:=by kernel_rfl
def Qig:ByteArray:=⟨#[115,112,97,114,101]⟩
def QbS (nm vl:Nat->ByteArray) (j:Nat):Value:=if j % 2=0 then .string (nm (j / 2)) else .string (vl (j / 2))
def QaC (n:Nat) (nm vl:Nat->ByteArray) (j:Nat):Value:=QbS (λi=>if i<n then nm i else Qig) (λi=>if i<n then vl i else ⟨#[]⟩) j
theorem Qiq (nm vl:Nat->ByteArray) (i:Nat):QbS nm vl (i*2)=.string (nm i):=by unfold QbS;rw [if_pos (by omega)];congr 2;omega
theorem QiV (nm vl:Nat->ByteArray) (i:Nat):QbS nm vl (i*2+1)=.string (vl i):=by unfold QbS;rw [if_neg (by omega)];congr 2;omega
theorem Qwu (nm vl:Nat->ByteArray) (j:Nat):(QbS nm vl j).oneCell'=true:=by unfold QbS;split<;>rfl
theorem QwG (j:Nat):∃ i,j=i*2 \/ j=i*2+1:=⟨j / 2,by omega⟩
theorem QdH (b a j:Nat):((Xa b a):Addr).add j=(Xa b (a+j)):=by
 unfold Addr.add;split
 ·next c=>subst c;rfl
 rfl
theorem Qwx {nm:Nat->ByteArray} (c:Zn w ao n nm vl) (f:0<n):∃ d,ao=some d/\∀ j,j<n*2->w.cell? (d.add j)=some (QbS nm vl j):=by
 obtain ⟨b,m,e,_⟩:=c 0 f;refine ⟨(Xa b m),e,λj o=>?_⟩;rw [QdH];obtain ⟨i,a|a⟩:=QwG j
 ·obtain ⟨g,h,e',_,k,_⟩:=c i (by omega);rw [e] at e';cases e';rw [a,Qiq];exact k
 obtain ⟨g,h,e',_,_,l,_⟩:=c i (by omega);rw [e] at e';cases e';rw [a,QiV];exact l
theorem Quy {nm:Nat->ByteArray} {f:Nat->Value}:(if j<n*2 then QbS nm vl j else f j)=if j<n*2 then QaC n nm vl j else f j:=by
 by_cases a:j<n*2
 ·rw [if_pos a,if_pos a];unfold QaC QbS;have:j / 2<n:=by omega
  simp [this]
 rw [if_neg a,if_neg a]
theorem QsL {nm:Nat->ByteArray} {f:Nat->Value} (d:n<=k) : (if j=k*2+1 then Xo else if j=k*2 then .string ⟨#[115,112,97,114,101]⟩ else if j<k*2 then QaC n nm vl j else f j)=if j<(k+1)*2 then QaC n nm vl j else f j:=by
 by_cases a:j=k*2+1
 ·rw [if_pos a,if_pos (by omega),a];unfold QaC;rw [QiV,if_neg (by omega)]
 rw [if_neg a];by_cases b:j=k*2
 ·rw [if_pos b,if_pos (by omega),b];unfold QaC;rw [Qiq,if_neg (by omega)];rfl
 rw [if_neg b];by_cases c:j<k*2
 ·rw [if_pos c,if_pos (by omega)]
 rw [if_neg c,if_neg (by omega)]
theorem QkU ao (n c:Nat) nm vl w (E:n*32<=140737488351232) (f:Zn w ao n nm vl) : Xl 21 #[.slice ao n c] w λe w'=>e=.returned (Xe w.heap.size (n+3) (n+3))/\Xb w w'/\w'.rowIs w.heap.size 72 ((n+3)*2) (QaC n nm vl):=by
 obtain ⟨s,t,h,l,m⟩:=info_parts Qre;have v:=Qa f;clear f;go_enter Tryz.func21,Tryz.ntmps21;go_wp2_with (first|(refine Qfj rfl (.tmp 7) (.tmp 7) 31 rfl 72 s _ 2 32 Tryz.underlying31 t h l m .i64 .i64 _ (n+3) rfl rfl (by omega) (by omega) (by omega) ?_;intro w1 g o x d)|(refine QiF rfl (.tmp 9) (.tmp 10) 31 31 rfl 72 Tryz.underlying31 2 QsN w.heap.size (n+3) (n+3) ao n c rfl rfl (by omega) 72 ((n+3)*2) g (Qb o) (QbS nm vl) (Qwx ((Qb v).below d)) (by omega) (λj _=>Qwu _ _ j) w.heap.size w d X0 ?_;intro w2 p y q));go_loopw [4] (λi wr=>∃ k:Nat,n<=k/\k<=n+3/\i=Xi k/\Hid (wr.rowIs w.heap.size 72 ((n+3)*2) (λj=>if j<k*2 then QaC n nm vl j else g j))/\Xb w wr) (λi _=>n+3-(intOf i).toNat);·exact ⟨n,X0,by omega,rfl,Qa (p.out.congr λj _=>Quy),q⟩
 case round =>
  obtain ⟨k,r,z,rfl,a,b⟩:=hrel;by_cases A:k<n+3
  ·obtain ⟨u0,B⟩:∃ u,wr.cell? (Xa w.heap.size (k*2))=some u:=⟨_,a.out.cell (by omega)⟩;obtain ⟨u1,C⟩:∃ u,wr.cell? (Xa w.heap.size (k*2+1))=some u:=⟨_,a.out.cell (by omega)⟩;have F:=a.out.frozen (k*2);have D:=a.out.frozen (k*2+1);go_wp2;go_roundw;·exact ⟨k+1,by omega,by omega,by go_num,Qa (((a.out.set _ _).set _ _).congr λj _=>QsL r),(b.setCell X0 _).setCell X0 _⟩
   simp [intOf];omega
  go_wp2;go_ret;refine ⟨rfl,b,a.out.congr λj G=>?_⟩;rw [if_pos (by omega)]
attribute [local go_sem ↓] Go.wp_at_zero Go.wp_at_succ
theorem QnP:∀ {f a:Nat} {d:Int},ZF R f a->∀ x,x ∈ Qo R f a d->x.1<R.length:=by
 intro f;induction f with
 | zero=>intro a d c;exact absurd c (by simp [ZF])
 | succ f ih =>
  intro a d c x b;rw [Qo] at b;rcases mem_cons.1 b with rfl|b
  ·exact c.1
  obtain ⟨k,g,b⟩:=Xa9.1 b;exact ih (c.2 k g) x b
theorem QiH (b:ZF R f a):0<(Qo R f a d).length:=by cases f with| zero=>exact absurd b (by simp [ZF])| succ f=>rw [Qo];simp
def Qcu (R:List RN) (a:List (Nat × Int)) (k:Nat):List Value:=(a.take k).map λx=>Value.int .i64 (Qg R x.1)
theorem Qsc (a:k<W.length):Qcu R W (k+1)=Qcu R W k++[Xi (Qg R W[k].1)]:=by unfold Qcu;rw [take_succ_eq_append_getElem a,map_append];rfl
theorem QkL (a:k<=W.length):(Qcu R W k).length=k:=by unfold Qcu;simp;omega
theorem QrF S p R last v w (F:Qq S w p R last v) (r f:Nat) (T:Qk R 1=(r:Int)) (ay:f<=1099511627776) (u:ZF R f r) (a4:(Qo R f r 0).length<=1099511627776) : Xl 30 #[Xp p] w λe w'=>∃ q,e=.returned q/\Q0 w' w.heap.size q (Qcu R (Qo R f r 0) (Qo R f r 0).length)/\Xb w w':=by
 obtain ⟨af,ag,a6,a7,a8⟩:=info_parts QbF;have a5:=QiH (d:=0) u;have a9:=Qa (λx ah=>QnP (d:=0) u x ah);have l:=F.c1;have A:=Qa F;have az:=F.lt;have U:∀ w,Qq S w p R last v->Xl 48 #[Xp p,Xi r,Xi 0] w λe w'=>∃ c l B J,e=.returned (.tuple #[Xe c (Qo R f r 0).length l,.slice B (Qo R f r 0).length J]) /\ (Qo R f r 0).length<=l/\c<w'.heap.size/\(∀ k,(m:k<(Qo R f r 0).length)->w'.cell? (Xa c k)=some (Xi ((Qo R f r 0)[k].1:Nat)))/\Xb w w':=by intro w K;refine (Qhu S p R last v f r 0 w u (by omega) (by omega) a4 K).mono ?_;rintro e w' ⟨V,l,B,J,rfl,W⟩;obtain ⟨c,rfl,ai,_,C,s⟩:=W.o1.some (by rw [QcV];exact a5);refine ⟨c,l,B,J,rfl,ai,C,λk m=>?_,W.bel⟩;rw [s k (by rw [QcV];exact m)];unfold Qbd;rw [getElem?_map,getElem?_eq_getElem m];rfl
 have X:=Qa U;have Y:∀ w,Qq S w p R last v->Xl 49 #[Xp p,Xi 1] w λe w'=>e=.returned (Xi r)/\w'=w:=by intro w K;rw [<- T];exact QbP S p R last v 1 w K
 have a0:=Qa Y;clear U Y F T u;generalize Qo R f r 0=a at *;go_enter Tryz.func30,Tryz.ntmps30;go_wp2_with (first|(go_at_call 49;refine (Qb a0 _ (Qb A)).mono ?_;rintro e w1 ⟨rfl,rfl⟩)|(go_at_call 48;refine (Qb X _ (Qb A)).mono ?_;rintro e w2 ⟨c,aA,B,aB,rfl,av,O,L,G⟩));have aa:=Qa L;have y:=Qa (A.out.below G);have P:=y.out.lt;have H:=Qa G;clear L A X a0 l G;go_loopw [5,6] (λap i wr=>∃ (k:Nat) (q:Value),k<=a.length/\i=Xi k/\q=ap/\Hid (Q0 wr w2.heap.size q (Qcu R a k))/\Xb w2 wr) (λ_ i _=>a.length-(intOf i).toNat);·exact ⟨0,_,X3,rfl,rfl,Qa (show Q0 _ _ _ [] from Xc0 _ _ _ _),X4⟩
 case round =>
  obtain ⟨k,q,m,rfl,rfl,o,h⟩:=hrel;by_cases I:k<a.length
  ·have N:=a9.out a[k] (Xa0 I);obtain ⟨g,ab,rfl,aw,C,_,_,s⟩:=y.out.at (by omega);have aC:=(Xh h p 0 P).trans y.out.c0;have aD:=(Xh h c k O).trans (aa.out k I);have aE:Xc wr g (a[k].1*6) (Xi R[a[k].1].id):=(Xh h g (a[k].1*6) C).trans (s a[k].1 0 N (by omega));have a1:=Qa (Qsc (R:=R) I);have aj:=Qa (QV N);rw [aj.out] at a1;have aF:=QkL (R:=R) m;have aG:(0:Int)<=(k:Int):=by omega
   have aH:(k:Int)<(a.length:Int):=by omega
   have aq:=y.out.few;clear s;generalize R[a[k].1].id=z at *;generalize a[k].1=D at *;have aI:(0:Int)<=(D:Int):=by omega
   have aJ:(D:Int)<(R.length:Int):=by omega
   have ac:=h.size;have a2:=Qa h;have aK:g<wr.heap.size:=by omega
   have aL:p<wr.heap.size:=by omega
   have aM:c<wr.heap.size:=by omega
   have E:∀ b,b<w2.heap.size->q.ownBlock≠some b:=λb aN e=>by have:=(World.ownsRow.lt o.out b e).1;omega
   have ak:=E g C;have al:=E p P;have V:=E c O;clear E h;go_wp2_with fail
   go_region_held3 (λw'=>w'.cell? (Xa p 0)=some (Xe g R.length ab)/\w'.cell? (Xa c k)=some (Xi D)/\w'.cell? (Xa g (D*6))=some (Xi z))
     (first
       | go_keep
       | (go_split_ands
          refine ⟨?_,?_,?_⟩
          · (rw [n.cell_far _ (by simp;omega) (Ne.symm al)];assumption)
          · (rw [n.cell_far _ (by simp;omega) (Ne.symm V)];assumption)
          · (rw [n.cell_far _ (by simp;omega) (Ne.symm ak)];assumption)))
     ((refine step_append_lies _ (by rfl) _ _ _ (by rfl) w2.heap.size 3 af _ 1 8 Tryz.underlying69 ag a6 a7 a8 rfl (by omega) q (Qcu R a k).length _ (by rfl) ((World.ownsRow.alloc (Qb o) _).drew)
         (Xa wr.heap.size 0) 1 1 [Xi z] (by rfl) (by rfl) (World.news_of_block (cs:=#[Xi z]) (t:=3) (fr:=(0,0)) (Xc5 wr _)) (by simp [Value.oneCell'])
         (by omega) (by unfold maxLen;omega) (by omega) (by simp;omega) (wr.heap.size+1) (by simp) ?_;intro aO ar w1 M n ax au))
   have ad:=((a2.out.alloc ac (.cells #[Xi z] 3)).drew).grown n (by simp;omega) (λj ao=>(World.ownsRow.lt o.out j ao).1);have a3:=Qa (show Q0 w1 w2.heap.size _ (Qcu R a (k+1)) by rw [a1.out];exact Q0.of_app M rfl);rw [QkL m] at a3;clear M n o a2;go_wp2;go_roundw;·exact ⟨k+1,_,by omega,by go_num,rfl,a3,ad⟩
   simp [intOf];omega
  have ae:k=a.length:=by omega
  subst ae;go_wp2;go_ret;exact ⟨_,rfl,o.out.mono H.out.size,H.out.trans (h.mono H.out.size)⟩
def Zf (c:Int) (n:Nat):Nat:=((if c<0 then -(c+1) else c) % (n:Int)).toNat
theorem QdP (c:Int) (a:0<n):Zf c n<n:=by unfold Zf;have b:=Int.emod_lt_of_pos (if c<0 then -(c+1) else c) (show (0:Int)<(n:Int) by omega);have d:=Int.emod_nonneg (if c<0 then -(c+1) else c) (show (n:Int)≠0 by omega);omega
theorem QdT (c:Int) (n:Nat) (w:World) (k:0<n) (g:n<=1099511627776) (h:-9223372036854775808<=c) (i:c<=9223372036854775807) : Xl 16 #[Xi c,Xi n] w λe w'=>e=.returned (Xi (Zf c n:Nat))/\w'=w:=by
 have j:(1:Int)<=(n:Int):=by omega
 have b:∀ x:Int,0<=x->(((x % (n:Int)).toNat:Nat):Int)=x % (n:Int):=λx l=>Int.toNat_of_nonneg (Int.emod_nonneg x (by omega));have d:=Qa b;clear b;by_cases f:c<0
 ·have a:Hid (((Zf c n:Nat):Int)=-(c+1) % (n:Int)):=Qa (by unfold Zf;rw [if_pos f];exact d.out _ (by omega));go_enter Tryz.func16,Tryz.ntmps16;go_wp2;go_ret;refine ⟨?_,rfl⟩;have e:-((c+1).tmod (n:Int))=-(c+1) % (n:Int):=by rw [<- Int.neg_tmod,Int.tmod_eq_emod_of_nonneg (by omega)]
  rw [a.out,<- e];rfl
 have a:Hid (((Zf c n:Nat):Int)=c % (n:Int)):=Qa (by unfold Zf;rw [if_neg f];exact d.out _ (by omega));have m:0<=c:=by omega
 go_enter Tryz.func16,Tryz.ntmps16;go_wp2;go_ret;exact ⟨by rw [a.out];rfl,rfl⟩
attribute [local go_sem ↓] Go.wp_at_zero Go.wp_at_succ
theorem Qcr:(Tryz.prog.info? 72).map (λi=>(i.zero,i.size,i.bytes))=some (some (.agg #[Xo,Xo]),2,32):=by kernel_rfl
theorem QiK:(Tryz.prog.info? 33).map (λi=>(i.zero,i.size,i.bytes))=some (some (.agg #[Xi 0,Xo,Xi 0,Xv,Xo]),5,72):=by kernel_rfl
def QS (l:List (ByteArray × ByteArray)):List Value:=l.flatMap λx=>[.string x.1,.string x.2]
theorem Qei (l:List (ByteArray × ByteArray)):(QS l).length=l.length*2:=by unfold QS;induction l with| nil=>rfl| cons a l ih=>rw [flatMap_cons,length_append,ih];show 2+l.length*2=(l.length+1)*2;omega
theorem QfV (l:List (ByteArray × ByteArray)) (i r:Nat) (b:i<l.length) (d:r<2):(QS l)[i*2+r]?=[Value.string (QP l i),.string (Q6 l i)][r]?:=by
 induction l generalizing i with
 | nil=>exact absurd b (Xb7 _)
 | cons a l ih =>
  have e:QS (a::l)=[.string a.1,.string a.2]++QS l:=by unfold QS;rw [flatMap_cons]
  rw [e];cases i with
  | zero=>rw [getElem?_append_left (by show 0*2+r<2;omega)];simp [QP,Q6]
  | succ i =>
   rw [getElem?_append_right (by show 2<=_;omega)];have c:(i+1)*2+r-[Value.string a.1,Value.string a.2].length=i*2+r:=by show _-2=_;omega
   rw [c,ih i (by simpa using b)];rfl
theorem QeC (l:List (ByteArray × ByteArray)):∀ u ∈ QS l,u.oneCell'=true:=by intro u a;obtain ⟨x,_,a⟩:=Xa9.1 a;simp at a;rcases a with rfl|rfl<;>rfl
theorem QhQ (o:n=l.length) (m:Zn w ao n (QP l) (Q6 l)):∀ a,ao=some a->∀ j u,(QS l)[j]?=some u->w.cell? (a.add j)=some u:=by
 intro a e j u c;have p:j<l.length*2:=by have:=(Xd3.1 c).1;rwa [Qei] at this
 have g:j / 2<n:=by omega
 obtain ⟨b,f,e',_,h,i,_⟩:=m (j / 2) g;rw [e'] at e;cases e;rw [JO];have k:j=j / 2*2+j % 2:=by omega
 rw [k,QfV l _ _ (by omega) (by omega)] at c;have d:j % 2=0 \/ j % 2=1:=by omega
 rcases d with d|d
 ·rw [d] at c;simp at c;subst c;rw [show f+j=f+j / 2*2 by omega];exact h
 rw [d] at c;simp at c;subst c;rw [show f+j=f+j / 2*2+1 by omega];exact i
theorem QfW (a:w.ownsRow base 72 2 (.slice ao n c) n (QS l)) (o:n=l.length) (b:∀ x,x ∈ l->x.1.size<=maxLen/\x.2.size<=maxLen):Zn w ao n (QP l) (Q6 l):=by
 intro j p;rcases a.2 with ⟨_,e⟩|⟨g,k,m,e,_,f,q,_⟩
 ·omega
 cases e;have d:l[j]'(by omega) ∈ l:=Xa0 _;have h:QP l j=(l[j]'(by omega)).1:=by unfold QP;rw [Xg (by omega)];rfl
 have i:Q6 l j=(l[j]'(by omega)).2:=by unfold Q6;rw [Xg (by omega)];rfl
 refine ⟨g,0,rfl,(Xd0.1 f).1,?_,?_,by rw [h];exact (b _ d).1,by rw [i];exact (b _ d).2⟩
 ·rw [Nat.zero_add,a.cellAt (j*2) (by omega)];exact QfV l j 0 (by omega) (by omega)
 rw [Nat.zero_add,a.cellAt (j*2+1) (by omega)];exact QfV l j 1 (by omega) (by omega)
structure TN where
 d:Int
 tag:ByteArray
 key:Int
 text:ByteArray
 ats:List (ByteArray × ByteArray)
 ao:Option Addr
 an:Nat
 ac:Nat
def TN.cells (n:TN):List Value:=[Xi n.d,.string n.tag,Xi n.key,.slice n.ao n.an n.ac,.string n.text]
def ZW (N:List TN):List Value:=N.flatMap TN.cells
theorem Qll (N:List TN):(ZW N).length=N.length*5:=by unfold ZW;induction N with| nil=>rfl| cons a N ih=>rw [flatMap_cons,length_append,ih,length_cons];show 5+_=_;omega
theorem QqM (N:List TN) (n:TN):ZW (N++[n])=ZW N++n.cells:=by unfold ZW;simp
theorem Qj5 (N:List TN) (i r:Nat) (b:i<N.length) (d:r<5):(ZW N)[i*5+r]?=(N[i]).cells[r]?:=by
 induction N generalizing i with
 | nil=>exact absurd b (Xb7 _)
 | cons a N ih =>
  have e:ZW (a::N)=a.cells++ZW N:=by unfold ZW;rw [flatMap_cons]
  rw [e];cases i with
  | zero=>rw [getElem?_append_left (by show 0*5+r<5;omega)];simp
  | succ i =>
   rw [getElem?_append_right (by show 5<=_;omega)];have c:(i+1)*5+r-a.cells.length=i*5+r:=by show _-5=_;omega
   rw [c,ih i (by simpa using b)];rfl
theorem TN.cells_one (n:TN):∀ u ∈ n.cells,u.oneCell'=true:=by intro u a;simp [TN.cells] at a;rcases a with rfl|rfl|rfl|rfl|rfl<;>rfl
def TN.av (n:TN):Value:=.slice n.ao n.an n.ac
structure TN.Ok (B:Nat) (w:World) (q:Value) (n:TN):Prop where
 an:n.an=n.ats.length
 tag:n.tag.size<=maxLen
 text:n.text.size<=maxLen
 row:w.ownsRow B 72 2 n.av n.an (QS n.ats)
 size:∀ x,x ∈ n.ats->x.1.size<=maxLen/\x.2.size<=maxLen
 ne:n.av.ownBlock=none \/ n.av.ownBlock≠q.ownBlock
structure Zz (B:Nat) (w:World) (q:Value) (N:List TN):Prop where
 row:w.ownsRow B 33 5 q N.length (ZW N)
 node:∀ n,n ∈ N->n.Ok B w q
 far:N.Pairwise λm n=>n.av.ownBlock=none \/ n.av.ownBlock≠m.av.ownBlock
def Qfg (R:List RN) (x:Nat × Int) (n:TN):Prop:=∃ a:x.1<R.length,n.d=x.2/\n.tag=R[x.1].tag/\n.key=R[x.1].key/\n.text=R[x.1].text/\n.ats=R[x.1].ats
theorem Zz.nil (B:Nat) (w:World):Zz B w Xv []:=⟨Xc0 _ _ _ _,λn a=>by simp at a,List.Pairwise.nil⟩
theorem TN.Ok.kept {B:Nat} {w w':World} {q b:Value} {n:TN} (a:n.Ok B w q) (c:ZV w w' q b):n.Ok B w' b := ⟨a.an,a.tag,a.text,a.row.kept c.by a.ne,a.size,Qec c a.ne (QfS a.row X0)⟩
theorem TN.Ok.below {q:Value} {n:TN} (a:n.Ok B w q) (b:Xb w w'):n.Ok B w' q := ⟨a.an,a.tag,a.text,QX a.row b,a.size,a.ne⟩
theorem Zz.below {B:Nat} {w w':World} {q:Value} {N:List TN} (a:Zz B w q N) (b:Xb w w'):Zz B w' q N := ⟨QX a.row b,λn c=>(a.node n c).below b,a.far⟩
theorem QbG (a:w.ownsRow B e size v n xs) (d:B'<=B):w.ownsRow B' e size v n xs:=by refine ⟨a.1,a.2.imp id ?_⟩;rintro ⟨g,b,c,e,f,r⟩;exact ⟨g,b,c,e,Xb6 d f,r⟩
theorem Qmz {c:Nat} {g:TypeId} {d:Nat} {a:Value} {h:Nat} {f:List Value} (k:w.ownsRow B e size v n xs) (i:w1.ownsRow c g d a h f) (l:w.heap.size<=c):a.ownBlock=none \/ a.ownBlock≠v.ownBlock:=by cases j:a.ownBlock with| none=>exact .inl rfl| some b =>refine .inr λe=>?_;have:=(i.lt b j).1;have:=(k.lt b e.symm).2;omega
theorem Zz.more {q:Value} {N:List TN} {n:TN} (b:Zz B w q N) (j:B<=w.heap.size) (k:Xb w w1) (h:n.an=n.ats.length) (g:n.tag.size<=maxLen) (f:n.text.size<=maxLen) (c:w1.ownsRow w.heap.size 72 2 n.av n.an (QS n.ats)) (i:∀ x,x ∈ n.ats->x.1.size<=maxLen/\x.2.size<=maxLen) (l:w2.ownsRow B 33 5 q' (N.length+1) (ZW N++n.cells)) (d:ZV w1 w2 q q'):Zz B w2 q' (N++[n]):=by
 have o:n.Ok B w1 q:=⟨h,g,f,QbG c j,i,Qmz b.row c X0⟩;refine ⟨?_,λm a=>?_,?_⟩
 ·rw [length_append,QqM];exact l
 ·rcases Xa4.1 a with a|a
  ·exact ((b.node m a).below k).kept d
  have:=Xa2.1 a;subst this;exact o.kept d
 rw [pairwise_append];refine ⟨b.far,pairwise_singleton _ _,λm a x p=>?_⟩;have:=Xa2.1 p;subst this;exact Qmz (b.node m a).row c X0
end Go.Proofs.YtobgcaemnpkbmaaGreat
