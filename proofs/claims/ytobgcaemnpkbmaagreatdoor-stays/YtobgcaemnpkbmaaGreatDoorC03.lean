import Derived.Lib.Strings
import Derived.Lib.Walk
import Derived.Lib.BufferWrite
import Derived.Lib.UnsafeStr
import Derived.Lib.Hide
import Derived.Laws.MakeOwn
import Derived.LaidEqlPtr
import Derived.Test.YtobgcaemnpkbmaaGreatDoorC02
import Derived.Deep.AppendLies
import Derived.Deep.DrawnRows
namespace Go.Proofs.YtobgcaemnpkbmaaGreatDoor
set_option maxRecDepth 100000
set_option maxHeartbeats 8000000
open Go.RowKit List
structure Qx (S:Nat->Prop) (w w':World):Prop where
 os:w'.os=w.os
 tape:w'.tape=w.tape
 output:w'.output=w.output
 size:w.heap.size<=w'.heap.size
 block:∀ k,k<w.heap.size->¬ S k->w'.heap[k]?=w.heap[k]?
theorem Qx.of_below {S:Nat->Prop} {w w':World} (h:Xb w w'):Qx S w w':=⟨h.os,h.tape,h.output,h.size,λk a _=>h.block k a⟩
theorem Qx.trans {S:Nat->Prop} {a b c:World} (h:Qx S a b) (k:Qx (λb=>S b \/ a.heap.size<=b) b c):Qx S a c := ⟨k.os.trans h.os,k.tape.trans h.tape,k.output.trans h.output,Nat.le_trans h.size k.size,λi d f=>(k.block i (Nat.lt_of_lt_of_le d h.size) (λe=>by rcases e with e|e;exact f e;omega)).trans (h.block i d f)⟩
theorem Qx.mono {S S':Nat->Prop} {w w':World} (h:Qx S w w') (c:∀ b,b<w.heap.size->S b->S' b):Qx S' w w':=⟨h.os,h.tape,h.output,h.size,λk a d=>h.block k a (λe=>d (c k a e))⟩
theorem Qx.set {S:Nat->Prop} {w w':World} (h:Qx S w w') {a:Addr} (b:S a.block \/ w.heap.size<=a.block) (u:Value):Qx S w (w'.setCell a u) := ⟨h.os,h.tape,h.output,by simpa [World.setCell] using h.size,λk d c=>(Below.heap_setCell w' a u k (λe=>by rcases b with b|b;exact c (by rw [e];exact b);omega)).trans (h.block k d c)⟩
theorem Qnv:(Tryz.prog.info? 5).map (λi=>(i.zero,i.size,i.bytes))=some (some (.int .u8 0),1,1):=by kernel_rfl
theorem Quq (s:ByteArray) (w:World) (D:s.size<=281474976710656) : Xl 166 #[.string s] w λe w'=>e=.returned (.string s)/\Xb w w':=by
 by_cases m:s.size=0
 ·have B:s=⟨#[]⟩:=by apply ByteArray.ext;exact Array.eq_empty_of_size_eq_zero m
  subst B;go_enter Tryz.func166,Tryz.ntmps166;go_wp2;go_ret;exact ⟨rfl,Below.refl _ _⟩
 obtain ⟨n,d,q,c,r⟩:=info_parts Qnv;have o:(Tryz.prog.info? 5).map (·.size)=some 1:=by rw [d];simp [c]
 have t:(Tryz.prog).cellsOf 5=1:=by simp [Program.cellsOf,d,c]
 obtain ⟨M,f⟩:∃ M,M=madeCells (Value.int .u8 0).cells (((s.size:Nat):Int).toNat*n.size):=⟨_,rfl⟩;have E:M.size=s.size:=by rw [f,size_madeCells,c];simp
 have F:∀ b:World,(Instr.makeSlice 261 (Xi (s.size:Int)) (Xi (s.size:Int))).run Tryz.prog b=.ok (Xe b.heap.size s.size s.size) (b.alloc (.cells M 5)):=λb=>by have h:=run_make (P:=Tryz.prog) b 261 5 n (.int .u8 0) Tryz.underlying261 d q .i64 .i64 (s.size:Int) (s.size:Int) (by omega) (by omega) (by rw [r];omega) (by omega);rw [<- f] at h;simpa using h
 clear f;have u:=Lib.run_copy_row_string (P:=Tryz.prog) (w.alloc (.cells M 5)) 261 9 3 5 w.heap.size 0 s.size s.size s M 5 Tryz.underlying261 o (heap_alloc_new w _) (Nat.le_refl _) (by omega);obtain ⟨a,g⟩:∃ a,a=(M.toList.take 0++Lib.byteCells s.data.toList++M.toList.drop (0+s.size)).toArray:=⟨_,rfl⟩;rw [<- g] at u;have i:a.toList=Lib.byteCells s.data.toList:=by rw [g,toList_toArray,take_zero,nil_append,drop_of_length_le (by rw [Array.length_toList];omega),append_nil]
 have G:a.size=s.size:=by rw [<- Array.length_toList,i,Lib.byteCells_length,<- Lib.size_eq]
 have l:((w.alloc (.cells M 5)).setRow w.heap.size a).heap[w.heap.size]?=some (.cells a 5 (0,0)):=setRow_heap _ _ M _ 5 (0,0) (heap_alloc_new w _);have v:s.data.toList≠[]:=λe=>m (by rw [Lib.size_eq,e];rfl);have y:=Lib.run_unsafeString_row (P:=Tryz.prog) ((w.alloc (.cells M 5)).setRow w.heap.size a) 266 3 9 5 Tryz.underlying266 t w.heap.size a.size (by unfold World.shape?;rw [l]) s.data.toList v (by rw [<- Lib.size_eq];omega) (by rw [<- Lib.size_eq];omega) (λj x C=>Lib.cells_of_row l a.size j _ (by rw [take_of_length_le (by rw [Array.length_toList];exact Nat.le_refl _),i];simp [Lib.byteCells,C]));rw [<- Lib.size_eq] at y;clear g;go_enter Tryz.func166,Tryz.ntmps166;go_wp2;go_ret;have z:Xb w (w.alloc (.cells M 5)):=(Below.refl _ w).alloc (Nat.le_refl _) _;have A:Below w.heap.size (w.alloc (.cells M 5)) ((w.alloc (.cells M 5)).setRow w.heap.size a):=⟨rfl,rfl,rfl,by simp,λk H=>setRow_other _ _ _ _ (by omega)⟩;exact ⟨rfl,Lib.below_freeze (z.trans A) (p:=(Xa w.heap.size 0)) (Nat.le_refl _) _⟩
theorem Qoo (s:ByteArray) (w:World) (a:s.size<=281474976710656) : Xl 127 #[.string s] w λe w'=>e=.returned (.string s)/\Xb w w':=by go_enter Tryz.func127,Tryz.ntmps127;go_wp2_with (first|(go_at_call 166;refine (Quq s _ a).mono ?_;rintro e w1 ⟨rfl,hb⟩));go_ret;exact ⟨rfl,hb⟩
theorem Qcq (s:ByteArray) (w:World) (a:s.size<=281474976710656) : Xl 94 #[.string s] w λe w'=>e=.returned (.string s)/\Xb w w':=by go_enter Tryz.func94,Tryz.ntmps94;go_wp2_with (first|(go_at_call 127;refine (Qoo s _ a).mono ?_;rintro e w1 ⟨rfl,hb⟩));go_ret;exact ⟨rfl,hb⟩
def Jx (w:World) (b:Nat):Prop:=∃ c t,w.heap[b]?=some (.cells c t (0,0))
theorem Qu5:(Tryz.prog.info? 148).map (λi=>(i.zero,i.size,i.bytes))=some (some (.agg #[Xi 0,Xi 0,Xo,Xo,Xv,.pointer none,Xv]),7,104):=by kernel_rfl
theorem Qci {w:World} {a b:Nat} (c:Jx w a) (hb:Jx w b):(binOp .eql 140 (Xp a) (Xp b)).run Tryz.prog w=.ok (.bool (a==b)) w:=by
 obtain ⟨g,d,_,f,_⟩:=info_parts Qu5;by_cases h:a=b
 ·subst h;rw [run_eql_ptr_same w _ Tryz.underlying140 d];simp
 obtain ⟨i,j,c⟩:=c;obtain ⟨k,l,hb⟩:=hb;rw [run_eql_ptr_other w Tryz.underlying140 d (by omega) (λe=>h (by cases e;rfl)) c hb];simp [h]
theorem Qkw {w:World} {a b:Nat} (d:Jx w a) (hb:Jx w b):(binOp .neq 140 (Xp a) (Xp b)).run Tryz.prog w=.ok (.bool (a !=b)) w:=by
 have h:=Qci d hb;simp only [binOp] at h ⊢;simp only [Sem.run_bind] at h ⊢;cases c:(Op.equal 140 (Xp a) (Xp b)).run Tryz.prog w with
 | ok v w' =>rw [c] at h;simp at h;obtain ⟨rfl,rfl⟩:=h;simp [bne]
 | _=>rw [c] at h;simp [Result.andThen] at h
theorem QiU (g n c:Nat) (a:List Nat) (x:Nat) (w:World) (q:n=a.length) (z:n<=1099511627776) (k:Nat) (B:k<n) (f:a[k]?=some x) (m:∀ j,j<k->a[j]?≠some x) (r:∀ j b,a[j]?=some b->w.cell? (Xa g j)=some (Xp b)) (h:∀ b,b ∈ a->Jx w b) : Xl 95 #[Xe g n c,Xp x] w λe w'=>e=.returned (Xi k)/\w'=w:=by
 have s:Jx w x:=h x (mem_of_getElem? f);have t:=Qa r;have u:=Qa h;have v:=Qa m;have y:=Qa q;clear r h m q;go_enter Tryz.func95,Tryz.ntmps95;go_wp2;go_loopw [8] (λi wr=>∃ j:Nat,j<=k/\i=Xi j/\wr=w) (λi _=>n-(intOf i).toNat);·exact ⟨0,Nat.zero_le _,rfl,rfl⟩
 case round =>
  obtain ⟨j,C,rfl,rfl⟩:=hrel;have o:j<a.length:=by have:=y.out;omega
  have l:=getElem?_eq_getElem o;have D:=t.out j _ l;have p:=Qci s (u.out _ (getElem_mem o));have A:j<n:=by omega
  by_cases e:j=k
  ·subst e;have d:x=a[j]:=by rw [l] at f;exact (Option.some.inj f).symm
   rw [d,beq_self_eq_true] at p;subst d;go_wp2;go_ret;exact ⟨rfl,rfl⟩
  have d:(x==a[j])=false:=by have:=v.out j (by omega);rw [l] at this;simp;exact λe=>this (by rw [e])
  rw [d] at p;go_wp2;go_roundw;·exact ⟨j+1,by omega,by go_num,trivial⟩
  simp [intOf];omega
theorem QdW (b a j:Nat):((Xa b a):Addr).add j=(Xa b (a+j)):=by
 unfold Addr.add;split
 ·next h=>subst h;rfl
 rfl

attribute [local go_sem ↓] Go.wp_at_zero Go.wp_at_succ
theorem Qdc:(Tryz.prog.info? 96).map (λi=>(i.zero,i.size,i.bytes))=some (some (.agg #[Xo,Xo]),2,32):=by kernel_rfl
theorem Qsg:(Tryz.prog.info? 47).map (λi=>(i.zero,i.size,i.bytes))=some (some (.agg #[Xi 0,Xo,Xi 0,Xv,Xo]),5,72):=by kernel_rfl
def QM (l:List (ByteArray × ByteArray)):List Value:=l.flatMap λx=>[.string x.1,.string x.2]
theorem QkM (l:List (ByteArray × ByteArray)):(QM l).length=l.length*2:=by unfold QM;induction l with| nil=>rfl| cons a l ih=>rw [flatMap_cons,length_append,ih];show 2+l.length*2=(l.length+1)*2;omega
theorem QfB (l:List (ByteArray × ByteArray)) (i r:Nat) (b:i<l.length) (d:r<2):(QM l)[i*2+r]?=[Value.string (Q4 l i),.string (Zq l i)][r]?:=by
 induction l generalizing i with
 | nil=>exact absurd b (Nat.not_lt_zero _)
 | cons a l ih =>
  have e:QM (a::l)=[.string a.1,.string a.2]++QM l:=by unfold QM;rw [flatMap_cons]
  rw [e];cases i with
  | zero=>rw [getElem?_append_left (by show 0*2+r<2;omega)];simp [Q4,Zq]
  | succ i =>
   rw [getElem?_append_right (by show 2<=_;omega)];have c:(i+1)*2+r-[Value.string a.1,Value.string a.2].length=i*2+r:=by show _-2=_;omega
   rw [c,ih i (by simpa using b)];rfl
theorem QgN (l:List (ByteArray × ByteArray)):∀ u ∈ QM l,u.oneCell'=true:=by intro u a;obtain ⟨x,_,a⟩:=mem_flatMap.1 a;simp at a;rcases a with rfl|rfl<;>rfl
theorem Qj4 {w:World} {base:Nat} {ao:Option Addr} {n c:Nat} {l:List (ByteArray × ByteArray)} (h:w.ownsRow base 96 2 (.slice ao n c) n (QM l)) (m:n=l.length) (a:∀ x,x ∈ l->x.1.size<=maxLen/\x.2.size<=maxLen):JW w ao n (Q4 l) (Zq l):=by
 intro j o;rcases h.2 with ⟨_,e⟩|⟨g,cap,k,e,_,d,p,_⟩
 ·omega
 cases e;have b:l[j]'(by omega) ∈ l:=getElem_mem _;have f:Q4 l j=(l[j]'(by omega)).1:=by unfold Q4;rw [Xg (by omega)];rfl
 have i:Zq l j=(l[j]'(by omega)).2:=by unfold Zq;rw [Xg (by omega)];rfl
 refine ⟨g,0,rfl,(Array.getElem?_eq_some_iff.1 d).1,?_,?_,by rw [f];exact (a _ b).1,by rw [i];exact (a _ b).2⟩
 ·rw [Nat.zero_add,h.cellAt (j*2) (by omega)];exact QfB l j 0 (by omega) (by omega)
 rw [Nat.zero_add,h.cellAt (j*2+1) (by omega)];exact QfB l j 1 (by omega) (by omega)
structure TN where
 d:Int
 tag:ByteArray
 key:Int
 text:ByteArray
 ats:List (ByteArray × ByteArray)
 ao:Option Addr
 an:Nat
 ac:Nat
def TN.cells (n:TN):List Value:=[Xi n.d,.string n.tag,Xi n.key,.slice n.ao n.an n.ac,.string n.text]
def ZT (a:List TN):List Value:=a.flatMap TN.cells
theorem Qtk (b:List TN):(ZT b).length=b.length*5:=by unfold ZT;induction b with| nil=>rfl| cons a b ih=>rw [flatMap_cons,length_append,ih,length_cons];show 5+_=_;omega
theorem QpP (a:List TN) (n:TN):ZT (a++[n])=ZT a++n.cells:=by unfold ZT;simp
theorem TN.cells_one (n:TN):∀ u ∈ n.cells,u.oneCell'=true:=by intro u a;simp [TN.cells] at a;rcases a with rfl|rfl|rfl|rfl|rfl<;>rfl
def TN.av (n:TN):Value:=.slice n.ao n.an n.ac
structure TN.Ok (B:Nat) (w:World) (q:Value) (n:TN):Prop where
 an:n.an=n.ats.length
 tag:n.tag.size<=maxLen
 text:n.text.size<=maxLen
 row:w.ownsRow B 96 2 n.av n.an (QM n.ats)
 size:∀ x,x ∈ n.ats->x.1.size<=maxLen/\x.2.size<=maxLen
 ne:n.av.ownBlock=none \/ n.av.ownBlock≠q.ownBlock
structure ZB (B:Nat) (w:World) (q:Value) (N:List TN):Prop where
 row:w.ownsRow B 47 5 q N.length (ZT N)
 node:∀ n,n ∈ N->n.Ok B w q
 far:N.Pairwise λm n=>n.av.ownBlock=none \/ n.av.ownBlock≠m.av.ownBlock
def Qkq (R:List RN) (x:Nat × Int) (n:TN):Prop:=∃ h:x.1<R.length,n.d=x.2/\n.tag=R[x.1].tag/\n.key=R[x.1].key/\n.text=R[x.1].text/\n.ats=R[x.1].ats
theorem ZB.nil (a:Nat) (w:World):ZB a w Xv []:=⟨World.ownsRow_nil _ _ _ _,λn h=>by simp at h,List.Pairwise.nil⟩
theorem TN.Ok.kept {c:Nat} {w w':World} {q a:Value} {n:TN} (h:n.Ok c w q) (b:Zl w w' q a):n.Ok c w' a := ⟨h.an,h.tag,h.text,h.row.kept b.by h.ne,h.size,QbW b h.ne (QeZ h.row (Nat.le_refl _))⟩
theorem TN.Ok.below {a:Nat} {w w':World} {q:Value} {n:TN} (h:n.Ok a w q) (hb:Xb w w'):n.Ok a w' q := ⟨h.an,h.tag,h.text,Zi h.row hb,h.size,h.ne⟩
theorem ZB.below {a:Nat} {w w':World} {q:Value} {b:List TN} (h:ZB a w q b) (hb:Xb w w'):ZB a w' q b := ⟨Zi h.row hb,λn c=>(h.node n c).below hb,h.far⟩
theorem Qbv {w:World} {b:Nat} {e:TypeId} {size:Nat} {v:Value} {n:Nat} {xs:List Value} (h:w.ownsRow b e size v n xs) {a:Nat} (d:a<=b):w.ownsRow a e size v n xs:=by refine ⟨h.1,h.2.imp id ?_⟩;rintro ⟨g,cap,c,e,hb,r⟩;exact ⟨g,cap,c,e,Nat.le_trans d hb,r⟩
theorem QkS {w w1:World} {l c:Nat} {e g:TypeId} {size d:Nat} {v a:Value} {n i:Nat} {xs f:List Value} (h:w.ownsRow l e size v n xs) (j:w1.ownsRow c g d a i f) (m:w.heap.size<=c):a.ownBlock=none \/ a.ownBlock≠v.ownBlock:=by cases k:a.ownBlock with| none=>exact .inl rfl| some b =>refine .inr λe=>?_;have:=(j.lt b k).1;have:=(h.lt b e.symm).2;omega
theorem ZB.more {b:Nat} {w w1 w2:World} {q f:Value} {c:List TN} {n:TN} (h:ZB b w q c) (o:b<=w.heap.size) (hb:Xb w w1) (k:n.an=n.ats.length) (j:n.tag.size<=maxLen) (i:n.text.size<=maxLen) (d:w1.ownsRow w.heap.size 96 2 n.av n.an (QM n.ats)) (l:∀ x,x ∈ n.ats->x.1.size<=maxLen/\x.2.size<=maxLen) (p:w2.ownsRow b 47 5 f (c.length+1) (ZT c++n.cells)) (g:Zl w1 w2 q f):ZB b w2 f (c++[n]):=by
 have r:n.Ok b w1 q:=⟨k,j,i,Qbv d o,l,QkS h.row d (Nat.le_refl _)⟩;refine ⟨?_,λm a=>?_,?_⟩
 ·rw [length_append,QpP];exact p
 ·rcases mem_append.1 a with a|a
  ·exact ((h.node m a).below hb).kept g
  have:=mem_singleton.1 a;subst this;exact r.kept g
 rw [pairwise_append];refine ⟨h.far,pairwise_singleton _ _,λm a x s=>?_⟩;have:=mem_singleton.1 s;subst this;exact QkS (h.node m a).row d (Nat.le_refl _)
end Go.Proofs.YtobgcaemnpkbmaaGreatDoor
