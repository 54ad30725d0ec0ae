import Derived.Test.YtobgcaemnpkbmaaGreatY04
import Derived.Shelf.Spec.SlicesInsert
import Derived.Lib.AppendZerosOnto
import Derived.Laws.NewBlocks
import Derived.Maps.OwnSet
import Derived.Maps.OwnOps
import Derived.Lib.Bytealg
import Derived.Lib.Slices
import Derived.Lib.SlicesDelete
namespace Go.Proofs.YtobgcaemnpkbmaaGreat
set_option maxRecDepth 100000
set_option maxHeartbeats 8000000
open Go.RowKit List
variable {nm:ByteArray} {Q:Exit->Act->World->Prop} {last:Int} {l:List (ByteArray × ByteArray)} {R R':List RN} {xs:List Value} {B N base c g k m mb n p size:Nat} {S S':Nat->Prop} {e:TypeId} {v v':Value} {w w' w2:World}
theorem RN.Ok.moved {n:RN} (a:n.Ok S w) (i:∀ b,b<w.heap.size->S b->S' b) (f:w.heap.size<=w'.heap.size) (k:∀ c,n.ao=some c->w'.heap[c.block]?=w.heap[c.block]?):n.Ok S' w':=by refine ⟨a.an,a.few,a.nil,a.tag,a.text,?_,λc e=>⟨i _ (a.own c e).2 (a.own c e).1,Xb4 (a.own c e).2 f⟩⟩;intro j l;obtain ⟨b,d,e,h,m,o,p,q⟩:=a.at' j l;have g:w'.heap[b]?=w.heap[b]?:=k _ e;exact ⟨b,d,e,Xb4 h f,(Xk b (d+j*2) g).trans m,(Xk b (d+j*2+1) g).trans o,p,q⟩
theorem Qq.build {h:Int} (d:Qq S w p R last v) (i:∀ b,b<w.heap.size->S b->S' b) (m:w.heap.size<=w'.heap.size) (q:w'.cell? (Xa p 0)=some v') (r:w'.cell? (Xa p 1)=some (Xi 1)) (s:w'.cell? (Xa p 2)=some (Xi h)) (t:w'.frozen? (Xa p 0)=false) (u:w'.frozen? (Xa p 2)=false) (row:w'.ownsRow 0 91 6 v' R'.length (ZS R')) (l:∀ g,v'.ownBlock=some g->S' g/\g≠p) (o:R'.length<=800) (j:∀ n,n ∈ R'->n ∈ R \/ (n.Ok S' w'/\∀ a,n.ao=some a->a.block≠p/\some a.block≠v'.ownBlock)) (k:∀ n,n ∈ R->∀ a,n.ao=some a->w'.heap[a.block]?=w.heap[a.block]?/\some a.block≠v'.ownBlock):Qq S' w' p R' h v':=by
 refine ⟨i _ d.lt d.sp,q,r,s,t,u,row,l,o,λn f=>?_,λn f a e=>?_⟩
 ·rcases j n f with c|⟨x,_⟩
  ·exact (d.node n c).moved i m λa e=>(k n c a e).1
  exact x
 rcases j n f with c|⟨_,y⟩
 ·exact ⟨(d.apart n c a e).1,(k n c a e).2⟩
 exact y a e
def Qau (b:Bool) (P a:Prop):Prop:=(b=true->P)/\(b=false->a)
theorem Qau.yes {P b:Prop} (a:P):Qau true P b:=⟨λ_=>a,λa=>nomatch a⟩
theorem Qau.no {P b:Prop} (a:b):Qau false P b:=⟨λa=>(nomatch a),λ_=>a⟩
def JP (tag:ByteArray) (key:Int) (text:ByteArray):Qd:=⟨0,tag,key,none,0,0,text,λ_=>⟨#[]⟩,λ_=>⟨#[]⟩⟩
theorem QeB (w:World) {tag text:ByteArray} (key:Int) (a:tag.size<=maxLen) (b:text.size<=maxLen):(JP tag key text).Ok w:=⟨X3,a,b,λ_ c=>absurd c (Xb7 _)⟩
def Jy (a:Nat) (last:Int) (x:Qh):Bool:=ZZ (JP x.tag x.key x.text)&&(x.id==last+1)&&decide (a<800)&&(x.par==0)&&(x.bef==0)&&x.name.toList.isEmpty
def Qer (x:Qh):RN:={ id:=x.id,par:=0,tag:=x.tag,key:=x.key,text:=x.text,ats:=[],ao:=none,an:=0,ac:=0 }
structure Qh.Ok (x:Qh):Prop where
 tag:x.tag.size<=maxLen
 name:x.name.size<=maxLen
 text:x.text.size<=maxLen
theorem Qs6 (R:List RN) (k r:Nat) (u:Value) (n:RN) (c:k<R.length) (g:r<6) (d:(R[k]).cells.set r u=n.cells):(ZS R).set (k*6+r) u=ZS (R.set k n):=by
 induction R generalizing k with
 | nil=>exact absurd c (Xb7 _)
 | cons a R ih =>
  have e:ZS (a::R)=a.cells++ZS R:=by unfold ZS;rw [flatMap_cons]
  rw [e];cases k with
  | zero =>
   rw [set_append_left _ _ (by show 0*6+r<6;omega)];have b:ZS ((a::R).set 0 n)=n.cells++ZS R:=by unfold ZS;rw [set_cons_zero,flatMap_cons]
   rw [b,<- d];simp
  | succ k =>
   have b:ZS ((a::R).set (k+1) n)=a.cells++ZS (R.set k n):=by unfold ZS;rw [set_cons_succ,flatMap_cons]
   rw [b,set_append_right _ _ (by show 6<=_;omega)];have f:(k+1)*6+r-a.cells.length=k*6+r:=by show _-6=_;omega
   rw [f,ih k (by simpa using c) d]
theorem Qq.wrote {o:Nat} (a:Qq S w p R last (Xe g R.length o)) (t:∀ b,b<w.heap.size->S b->S' b) (k r:Nat) (u:Value) (n:RN) (v:k<R.length) (x:r<6) (y:(R[k]).cells.set r u=n.cells) (i:n.Ok S' w/\∀ c,n.ao=some c->c.block≠p/\c.block≠g):Qq S' (w.setCell (Xa g (k*6+r)) u) p (R.set k n) last (Xe g R.length o):=by
 have j:=a.srow g rfl;have q:=(a.row.stored (k*6+r) u).1;rw [Qs6 R k r u n v x y] at q;have d:∀ b,b≠g->(w.setCell (Xa g (k*6+r)) u).heap[b]?=w.heap[b]?:=λb d=>X5 d;have s:(w.setCell (Xa g (k*6+r)) u).heap.size=w.heap.size:=QJ _ _ _;have f:p≠g:=λe=>j.2 e.symm;refine a.build t (Nat.le_of_eq s.symm) ?_ ?_ ?_ ?_ ?_ (by rw [length_set];exact q) (λz e=>?_) (by rw [length_set];exact a.few) (λm h=>?_) (λm h c e=>?_)
 ·rw [Xk p 0 (d p f)];exact a.c0
 ·rw [Xk p 1 (d p f)];exact a.c1
 ·rw [Xk p 2 (d p f)];exact a.c2
 ·rw [Xm p 0 (d p f)];exact a.f0
 ·rw [Xm p 2 (d p f)];exact a.f2
 ·have e':g=z:=Xb5 e;subst e';exact ⟨t g (a.row.lt g rfl).2 j.1,j.2⟩
 ·rcases Xb2 h with h|rfl
  ·exact .inl h
  exact .inr ⟨i.1.moved (λ_ _ a=>a) (Nat.le_of_eq s.symm) (λc e=>d _ (i.2 c e).2),λc e=>⟨(i.2 c e).1,λl=>(i.2 c e).2 (Xb5 l)⟩⟩
 have:=(a.apart m h c e).2;exact ⟨d _ (λl=>this (by rw [l];rfl)),this⟩
theorem QhP {b:World} {n:RN} {c:Option Addr} {f:Nat} (i:n.Ok S b) (o:l.length<=5) (k:∀ x,x ∈ l->x.1.size<=maxLen/\x.2.size<=maxLen) (h:Jg b w2.heap.size (.slice c l.length f) l) (m:w.heap.size<=w2.heap.size) (u:p<w2.heap.size) (v:g<w2.heap.size) (q:w'.heap.size=b.heap.size) : RN.Ok (JH S w w') b { n with ats:=l,ao:=c,an:=l.length,ac:=f }/\∀ a,({ n with ats:=l,ao:=c,an:=l.length,ac:=f }:RN).ao=some a->a.block≠p/\a.block≠g:=by
 have j:∀ a,c=some a->w2.heap.size<=a.block/\a.block<b.heap.size:=λa e=>by subst e;exact World.ownsRow.lt h a.block rfl
 refine ⟨⟨rfl,o,λe=>?_,i.tag,i.text,QfW h rfl k,λa e=>?_⟩,λa e=>?_⟩
 ·have e:c=none:=e;subst e;rcases h.2 with ⟨d,r⟩|⟨y,s,t,d,_⟩
  ·simp only [Value.slice.injEq] at d;exact ⟨r,d.2.2⟩
  simp only [Value.slice.injEq] at d;cases d.1
 ·have:=j a e;exact ⟨.inr ⟨Xb6 m this.1,by rw [q];exact this.2⟩,this.2⟩
 have:=j a e;exact ⟨by omega,by omega⟩
theorem QrG (b:n<=5) (a:n=l.length):(QI l nm).length<=5:=by unfold QI;exact Xb6 (length_filter_le _ _) (by omega)
theorem Qva (b:∀ x,x ∈ l->x.1.size<=maxLen/\x.2.size<=maxLen):∀ x,x ∈ QI l nm->x.1.size<=maxLen/\x.2.size<=maxLen:=λx a=>b x (Xa7.1 a).1
theorem Qg6:(Tryz.prog.info? 112).map (λi=>(i.zero,i.size,i.bytes))=some (some (.pointer none),1,8):=by kernel_rfl
def Z2 (a:List Value):Nat->List Value->List Value
 | _,[]=>a
 | o,v::r=>Z2 (a.set o v) (o+1) r
theorem QcQ (a:List Value):∀ (b:List Value) (c:Nat),(Z2 a c b).length=a.length:=by
 intro b;induction b generalizing a with
 | nil=>intro c;rfl
 | cons v r ih=>intro c;rw [Z2,ih,length_set]
theorem Qcs (b:List Value):∀ (c:List Value) (a:Nat),a+c.length<=b.length->Z2 b a c=b.take a++c++b.drop (a+c.length):=by
 intro c;induction c generalizing b with
 | nil=>intro a _;simp [Z2]
 | cons v r ih =>
  intro a d;rw [length_cons] at d;rw [Z2,ih _ (a+1) (by rw [length_set];omega)];have f:(b.set a v).take (a+1)=b.take a++[v]:=by rw [take_add_one,getElem?_set,if_pos rfl,if_pos (by omega),take_set_of_le X0];rfl
  have g:(b.set a v).drop (a+1+r.length)=b.drop (a+(v::r).length):=by
   rw [drop_set_of_lt (by omega),length_cons];congr 1
   omega
  rw [f,g];simp
theorem Qkc (b c u:List Value) (a s:Nat) (d:a<=b.length) (f:u.length=s) (g:c.length=s):Z2 (Z2 (b++c) (a+s) (b.drop a)) a u=b.take a++u++b.drop a:=by
 have m:(b++c).length=b.length+s:=by rw [length_append,g]
 have n:(b.drop a).length=b.length-a:=length_drop;have h:(b++c).drop (a+s+(b.drop a).length)=[]:=drop_of_length_le (by omega);have i:Z2 (b++c) (a+s) (b.drop a)=(b++c).take (a+s)++b.drop a:=by rw [Qcs _ _ _ (by omega),h,append_nil]
 have j:((b++c).take (a+s)).length=a+s:=by rw [length_take];omega
 rw [i,Qcs _ _ _ (by rw [length_append];omega),f];have k:((b++c).take (a+s)++b.drop a).take a=b.take a:=by rw [take_append_of_le_length (by omega),take_take,Nat.min_eq_left (by omega),take_append_of_le_length d]
 have l:((b++c).take (a+s)++b.drop a).drop (a+s)=b.drop a:=by have:=drop_left (l₁:=(b++c).take (a+s)) (l₂:=b.drop a);rwa [j] at this
 rw [k,l]
theorem QbM:∀ (b:List Value) (a:Nat) {w:World} {d:List Value},w.ownsRow B e size (Xe g n c) n d->(w.setCells g a b).ownsRow B e size (Xe g n c) n (Z2 d a b):=by
 intro b;induction b with
 | nil=>intro a w d f;exact f
 | cons v r ih=>intro a w d f;exact ih (a+1) (f.stored a v).1
theorem QiG (a:w.ownsRow B e size (Xe g n c) n xs) (i:m<=n):w.ownsRow B e size (Xe g m c) m (xs.take (m*size)):=by
 have r:=a.1;have b:m*size<=n*size:=Nat.mul_le_mul_right size i;refine ⟨by rw [length_take];omega,.inr ?_⟩;rcases a.2 with ⟨e,_⟩|⟨s,p,d,e,j,k,q,f,h,l⟩
 ·simp at e
 simp only [Value.slice.injEq] at e;obtain ⟨o,_,rfl⟩:=e;cases o;refine ⟨g,c,d,rfl,j,k,by omega,f,h,?_⟩;rw [<- l,take_take,Nat.min_eq_left b]
theorem QmM (j:w.ownsRow B e size (Xe g n c) n xs) (o:n<=m) (h:m<=c):∃ i,i.length=(m-n)*size/\w.ownsRow B e size (Xe g m c) m (xs++i):=by
 have p:=j.1;rcases j.2 with ⟨e,_⟩|⟨x,u,a,e,q,r,v,k,b,s⟩
 ·simp at e
 simp only [Value.slice.injEq] at e;obtain ⟨t,_,rfl⟩:=e;cases t;have l:n*size<=m*size:=Nat.mul_le_mul_right size o;have d:m*size<=c*size:=Nat.mul_le_mul_right size h;have f:a.toList.length=a.size:=Array.length_toList;refine ⟨(a.toList.take (m*size)).drop (n*size),by rw [length_drop,length_take,f,b,Nat.min_eq_left d,Nat.sub_mul],?_,.inr ⟨g,c,a,rfl,q,r,h,k,b,?_⟩⟩
 ·rw [length_append,length_drop,length_take,f,b,Nat.min_eq_left d,p];omega
 rw [<- s];have:a.toList.take (n*size)=(a.toList.take (m*size)).take (n*size):=by rw [take_take,Nat.min_eq_left l]
 rw [this,take_append_drop]
theorem Qee (j:w.ownsRow B e size (Xe g n c) n xs):∃ a,w.heap[g]?=some (.cells a e (0,0))/\a.size=c*size/\n<=c/\c<=maxLen:=by
 rcases j.2 with ⟨e,_⟩|⟨l,k,a,e,m,h,b,d,f,o⟩
 ·simp at e
 simp only [Value.slice.injEq] at e;obtain ⟨i,_,rfl⟩:=e;cases i;exact ⟨a,h,f,b,d⟩
theorem QaQ (b:Nat):∀ (c:List Value) (a:Nat) (w:World),w.grownBy (w.setCells b a c) (some b)/\(w.setCells b a c).heap.size=w.heap.size:=by
 intro c;induction c with
 | nil=>intro a w;exact ⟨⟨rfl,rfl,rfl,X0,λ_ _ _=>rfl⟩,rfl⟩
 | cons v r ih =>intro a w;obtain ⟨d,g⟩:=ih (a+1) (w.setCell (Xa b a) v);have f:(w.setCell (Xa b a) v).heap.size=w.heap.size:=QJ _ _ _;refine ⟨⟨d.os,d.tape,d.output,by rw [World.setCells,g,f];exact X0,λk i h=>?_⟩,by rw [World.setCells,g,f]⟩;exact (d.block k (by rw [f];exact i) h).trans (Below.heap_setCell w (Xa b a) v k (λe=>h (by rw [e])))
theorem QmE (b c:Nat) (a:List Value) (w:World):(w.drew.setCells b c a).heap=(w.setCells b c a).heap:=by rw [<- drew_setCells];rfl
theorem Q8 (a:w.ownsRow base e size v n xs) (i:∀ b,v.ownBlock=some b->w'.heap[b]?=w.heap[b]?):w'.ownsRow base e size v n xs:=by
 refine ⟨a.1,?_⟩;rcases a.2 with j|⟨g,d,f,rfl,k,h,c⟩
 ·exact .inl j
 exact .inr ⟨g,d,f,rfl,k,(i g rfl).trans h,c⟩
theorem Qdz {P:Program} (w:World) (k r ty d:TypeId) (size:Nat) (b c f n:Nat) (a:Addr) (g o:Nat) (cs:List Value) (s:P.underlying k=some (.slice d)) (l:(P.info? d).map (·.size)=some size) (t:cs.length=Nat.min g f*size) (p:∀ j v,cs[j]?=some v->w.cell? (a.add j)=some v) (u:∀ j,j<cs.length->(w.cell? (Xa b (c+j))).isSome=true) (x:∀ j,j<cs.length->w.frozen? (Xa b (c+j))=false) (y:∀ v ∈ cs,v.oneCell'=true) : (Builtin.copy_ #[k,r] ty #[.slice (some (Xa b c)) f n,.slice (some a) g o]).run P w=.ok (goInt (Nat.min g f)) (w.setCells b c cs):=by
 have m:=run_loadCells_list (P:=P) w a cs p;have q:=run_storeCells_cells (P:=P) b c cs 0 w (by simpa using u) (by simpa using x) y;cases h:P.info? d with
 | none=>simp [h] at l
 | some i =>
  have z:i.size=size:=by simpa [h] using l
  rw [t] at m;simp [Builtin.copy_,run_underlying s,Builtin.lenOf,Builtin.firstCells,sizeOf,typeInfo,h,z,m,q]
theorem Qlu {P:Program} (w:World) (t e ty:TypeId) (f:Value) (a:List Value) (m:P.underlying t=some (.slice e)) (n:∀ w,(zeroValue e).run P w=.ok f w) (o:f.cells=a.toArray) (_h0:0<a.length) (h:∀ v ∈ a,v.oneCell'=true) (b d c:Nat) (p:∀ j,j<a.length->(w.cell? (Xa b (d+j))).isSome=true) (q:∀ j,j<a.length->w.frozen? (Xa b (d+j))=false) : (Builtin.clear_ #[t] ty #[.slice (some (Xa b d)) 1 c]).run P w=.ok (.tuple #[]) (w.setCells b d a):=by
 have l:(Builtin.zeroCells f.cells 1).toList=a:=by
  rw [o];simp only [Builtin.zeroCells,Nat.one_mul,size_toArray];apply ext_getElem
  ·simp
  intro i h k;simp only [Array.toList_map,Array.toList_range,getElem_map,getElem_range];rw [Nat.mod_eq_of_lt k,getElem!_pos a.toArray i (by simpa using k)];simp
 have g:=run_storeCells_cells (P:=P) b d a 0 w (by simpa using p) (by simpa using q) h;simp only [Nat.add_zero] at g;simp [Builtin.clear_,run_underlying m,n,l,g]
open Go.Maps (Keyed int_keyed keyOf_int_mk)
theorem Qfd:Keyed Tryz.prog 3:=int_keyed Tryz.underlying3
def Qcf (v:Value):Option (DataW Value × List MemPlace):=some (.held v,[])
def Qc1 (x:Option Nat):Value:=.pointer (x.map λb=>(Xa b 0))
def Qu (i:Int):Prop:=-9223372036854775808<=i/\i<=9223372036854775807
theorem Qfa {i:Int} (c:Qu i):(Lit.int .i64 i).wf=true:=by obtain ⟨d,f⟩:=c;have a:IntKind.i64.min=-9223372036854775808:=rfl;have b:IntKind.i64.max=9223372036854775807:=rfl;simp [Lit.wf,a,b];omega
def JJ (w:World) (a:Nat) (f:Int->Option Nat) (N:Nat):Prop :=
 ∃ D:DataW Value,w.ownsMap Tryz.prog 3 Qcf a N D/\Go.Maps.size D=N/\∀ i,Qu i->Go.Maps.has D (.int .i64 i)=(f i).isSome/\D.atKey (.int .i64 i) (.held (.pointer none))=.held (Qc1 (f i))
theorem JJ.heap {w w':World} {a:Nat} {f:Int->Option Nat} {N:Nat} (k:JJ w a f N) (c:w'.heap[a]?=w.heap[a]?):JJ w' a f N:=by obtain ⟨D,⟨d,b,g,h⟩,i,j⟩:=k;exact ⟨D,⟨d,b,c.trans g,h⟩,i,j⟩
theorem JJ.lt {w:World} {b:Nat} {f:Int->Option Nat} {N:Nat} (a:JJ w b f N):b<w.heap.size:=by obtain ⟨D,a,_⟩:=a;exact a.lt
theorem JJ.made (w:World):JJ (w.alloc (.map #[] 0)) w.heap.size (λ_=>none) 0 := ⟨.map [],World.ownsMap_made w _ _ _,rfl,λ_i _=>⟨rfl,rfl⟩⟩
theorem JJ.look {f:Int->Option Nat} (h:JJ w mb f N) {i:Int} (b:Qu i):(Instr.lookup 111 (.map (some mb)) (.int .i64 i) false).run Tryz.prog w=.ok (Qc1 (f i)) w:=by obtain ⟨D,c,_,d⟩:=h;obtain ⟨v,ps,g,a⟩:=c.lookup Qfd Tryz.underlying111 (Tryz.zeroValue112 w) (zd:=.held (.pointer none)) (zp:=[]) rfl (keyOf_int_mk Tryz.underlying3 (Qfa b));rw [(d i b).2] at a;unfold Qcf at a;simp at a;rw [g,a.1]
theorem JJ.len {w:World} {a:Nat} {f:Int->Option Nat} {N:Nat} (d:JJ w a f N) (ty:TypeId):(Builtin.len_ #[111] ty #[.map (some a)]).run Tryz.prog w=.ok (.int .i64 N) w:=by obtain ⟨D,b,c,_⟩:=d;rw [b.len Tryz.underlying111 ty,c]
theorem QjU {D:DataW Value} (d:w.ownsMap Tryz.prog 3 Qcf mb n D):w.ownsMap Tryz.prog 3 Qcf mb (Go.Maps.size D) D:=by obtain ⟨b,a,c,F,f,rfl⟩:=d;refine ⟨b,a,c,F,?_,rfl⟩;simp [Go.Maps.size,length_sorted]
theorem Qt9 {f:Int->Option Nat} w {o:Array Oper} {n:List Oper} {d:Oper} {a:Act} (g:d.guard=none) (m x v:Operand) (s:d.op=Op.mapUpdate 111 m x v) (u:a.eval m=.map (some mb)) (G:JJ w mb f N) (y:N<maxLen) i (b:Nat) (p:Qu i) (z:a.eval x=.int .i64 i) (A:a.eval v=Xp b) (B:f i=none) (C:∀ w',Hid (JJ w' mb (λj=>if j=i then some b else f j) (N+1))->Hid (w.grownBy w' (some mb))->w'.heap.size=w.heap.size->wpList Tryz.prog o Q n (a.put d.dst undef) w'):wpList Tryz.prog o Q (d::n) a w:=by
 obtain ⟨D,c,E,q⟩:=G;refine wpList_mapUpdate_in w g m x v _ s 3 112 Qfd Tryz.underlying111 Qcf mb N D u c y _ _ (.int .i64 i) z A (keyOf_int_mk Tryz.underlying3 (Qfa p)) (.held (Xp b)) [] rfl ?_;intro w' r h;have g:=h.grown;have t:w'.heap.size=w.heap.size:=by obtain ⟨J,K,H,I,_,rfl⟩:=h;simp [Go.ChangeMaps.setBlock]
 have l:Go.Maps.size (D.put (.int .i64 i) (.held (Xp b)))=N+1:=by rw [Go.Maps.size_put (c.tidy Qfd),(q i p).1,B,E];rfl
 refine C w' (Qa ⟨_,by have:=QjU r;rwa [l] at this,l,λj F=>?_⟩) (Qa g) t;simp only [];by_cases e:j=i
 ·subst e;rw [if_pos rfl,Go.Maps.has_put_same (k:=.int .i64 j) c.isMap trivial,Go.Maps.atKey_put_same (k:=.int .i64 j) c.isMap trivial];exact ⟨rfl,rfl⟩
 rw [if_neg e,Go.Maps.has_put_other (by simpa using e),Go.Maps.atKey_put_other (by simpa using e)];exact q j F
theorem QqB {f:Int->Option Nat} w {l:Array Oper} {h:List Oper} {b:Oper} {a:Act} (c:b.guard=none) (m x:Operand) (r:b.op=Op.call { callee:=Callee.builtin Builtin.delete,args:=#[m,x],argTypes:=#[111,3] }) (t:a.eval m=.map (some mb)) (B:JJ w mb f N) i (n:Qu i) (u:a.eval x=.int .i64 i) (v:(f i).isSome=true) (y:∀ w',Hid (JJ w' mb (λj=>if j=i then none else f j) (N-1))->Hid (w.grownBy w' (some mb))->w'.heap.size=w.heap.size->wpList Tryz.prog l Q h (a.put b.dst (.tuple #[])) w'):wpList Tryz.prog l Q (b::h) a w:=by
 obtain ⟨D,o,z,p⟩:=B;refine wpList_delete_own w c m x _ _ r 112 Qfd Tryz.underlying111 Qcf mb N D t o _ (.int .i64 i) u (keyOf_int_mk Tryz.underlying3 (Qfa n)) ?_;intro w' q d;have c:=d.grown;have s:w'.heap.size=w.heap.size:=by obtain ⟨F,G,C,E,_,rfl⟩:=d;simp [Go.ChangeMaps.setBlock]
 have g:Go.Maps.size (D.del (.int .i64 i))=N-1:=by have:=Go.Maps.size_del (k:=.int .i64 i) (o.tidy Qfd);rw [(p i n).1,v,z] at this;simp at this;omega
 refine y w' (Qa ⟨_,by have:=QjU q;rwa [g] at this,g,λj A=>?_⟩) (Qa c) s;simp only [];by_cases e:j=i
 ·subst e;rw [if_pos rfl,Go.Maps.has_del_same,Go.Maps.atKey_del_same];exact ⟨rfl,rfl⟩
 rw [if_neg e,Go.Maps.has_del_other (by simpa using e),Go.Maps.atKey_del_other (by simpa using e)];exact p j A
theorem Qmi:∀ x:List UInt8,Op.bytesLess x x=false:=by intro x;induction x with| nil=>rfl| cons a x ih=>simp [Op.bytesLess,ih]
theorem Qe6:∀ x h g:List UInt8,Op.bytesLess x h=true->Op.bytesLess h g=true->Op.bytesLess x g=true:=by
 intro x;induction x with
 | nil =>intro h g f d;cases g with| nil=>cases h<;>simp [Op.bytesLess] at d| cons c g=>rfl
 | cons a x ih =>
  intro h g f d;cases h with
  | nil=>simp [Op.bytesLess] at f
  | cons b h =>
   cases g with
   | nil=>simp [Op.bytesLess] at d
   | cons c g =>
    simp only [Op.bytesLess,Bool.or_eq_true,decide_eq_true_eq,Bool.and_eq_true,beq_iff_eq] at f d ⊢;rcases f with f|⟨rfl,f⟩
    ·rcases d with d|⟨rfl,d⟩
     ·left;exact UInt8.lt_trans f d
     left;exact f
    rcases d with d|⟨rfl,d⟩
    ·left;exact d
    right;exact ⟨rfl,ih h g f d⟩
theorem Qsb:∀ x c:List UInt8,Op.bytesLess x c=false->Op.bytesLess c x=false->x=c:=by
 intro x;induction x with
 | nil =>intro c d f;cases c with| nil=>rfl| cons b c=>simp [Op.bytesLess] at d
 | cons a x ih =>
  intro c d f;cases c with
  | nil=>simp [Op.bytesLess] at f
  | cons b c =>
   simp only [Op.bytesLess,Bool.or_eq_false_iff,decide_eq_false_iff_not,Bool.and_eq_false_iff,beq_eq_false_iff_ne] at d f;have h:a=b:=by have i:=d.1;have j:=f.1;rw [UInt8.lt_iff_toNat_lt] at i j;exact UInt8.toNat_inj.1 (by omega)
   subst h;rw [ih c (d.2.resolve_left (λg=>g rfl)) (f.2.resolve_left (λg=>g rfl))]
theorem QlZ:∀ x c:List UInt8,Lib.compareBytes x c<0↔Op.bytesLess x c=true:=by
 intro x;induction x with
 | nil=>intro c;cases c<;>simp [Lib.compareBytes,Op.bytesLess]
 | cons a x ih =>
  intro c;cases c with
  | nil=>simp [Lib.compareBytes,Op.bytesLess]
  | cons b c =>
   simp only [Lib.compareBytes,Op.bytesLess,Bool.or_eq_true,decide_eq_true_eq,Bool.and_eq_true,beq_iff_eq];by_cases d:a<b
   ·simp [d]
   by_cases f:b<a
   ·have h:a≠b:=λe=>by subst e;exact UInt8.lt_irrefl _ f
    simp [d,f,h]
   have g:a=b:=by rw [UInt8.lt_iff_toNat_lt] at d f;exact UInt8.toNat_inj.1 (by omega)
   simp [g,ih c]
theorem QmD:∀ x c:List UInt8,Lib.compareBytes x c=0↔x=c:=by
 intro x;induction x with
 | nil=>intro c;cases c<;>simp [Lib.compareBytes]
 | cons a x ih =>
  intro c;cases c with
  | nil=>simp [Lib.compareBytes]
  | cons b c =>
   simp only [Lib.compareBytes,List.cons.injEq];by_cases d:a<b
   ·have f:a≠b:=λe=>by subst e;exact UInt8.lt_irrefl _ d
    simp [d,f]
   by_cases g:b<a
   ·have f:a≠b:=λe=>by subst e;exact UInt8.lt_irrefl _ g
    simp [d,g,f]
   have h:a=b:=by rw [UInt8.lt_iff_toNat_lt] at d g;exact UInt8.toNat_inj.1 (by omega)
   simp [h,ih c]
def Zi (a b:ByteArray):Bool:=Op.bytesLess a.toList b.toList
theorem Qfe {a b:ByteArray}:ZL a b=true↔a.toList=b.toList:=by unfold ZL;simp
def ZM (l:List (ByteArray × ByteArray)):Prop:=l.Pairwise λx a=>Zi x.1 a.1=true
def QB (l:List (ByteArray × ByteArray)) (nm:ByteArray):Nat:=(l.takeWhile λx=>Zi x.1 nm).length
theorem QdL (l:List (ByteArray × ByteArray)) (nm:ByteArray):QB l nm<=l.length:=(takeWhile_sublist _).length_le
theorem QhV {x:ByteArray × ByteArray} (a:Zi x.1 nm=true):QB (x::l) nm=QB l nm+1:=by unfold QB;simp [a]
theorem Qja {x:ByteArray × ByteArray} (a:Zi x.1 nm=false):QB (x::l) nm=0:=by unfold QB;simp [a]
theorem Qck (g:ZM l):∀ i,(b:i<l.length)->(Zi l[i].1 nm=true↔i<QB l nm):=by
 induction l with
 | nil=>intro i b;exact absurd b (Xb7 _)
 | cons x l ih =>
  intro i b;have d:=pairwise_cons.1 g;cases a:Zi x.1 nm with
  | true =>rw [QhV a];cases i with| zero=>simp [a]| succ i=>rw [getElem_cons_succ,ih d.2 i (by simpa using b)];omega
  | false =>
   rw [Qja a];cases i with
   | zero=>simp [a]
   | succ i =>
    have f:i<l.length:=by simpa using b
    rw [getElem_cons_succ];refine ⟨λc=>?_,λc=>absurd c (Xb7 _)⟩;have h:=d.1 l[i] (Xa0 f);have:=Qe6 _ _ _ h c;unfold Zi at a;rw [a] at this;cases this
theorem Qqr (a:ZM l) (h:k<=l.length) (b:∀ i,(c:i<l.length)->i<k->Zi l[i].1 nm=true) (d:∀ i,(c:i<l.length)->k<=i->Zi l[i].1 nm=false):QB l nm=k:=by
 have j:=QdL l nm;by_cases g:QB l nm<k
 ·have:=(Qck a (nm:=nm) (QB l nm) (by omega)).1 (b _ (by omega) g);omega
 by_cases f:k<QB l nm
 ·have:=(Qck a (nm:=nm) k (by omega)).2 f;rw [d k (by omega) X0] at this;cases this
 omega
def Zu (l:List (ByteArray × ByteArray)) (nm:ByteArray):Bool:=decide (QB l nm<l.length)&&ZL (Qa1 l (QB l nm)).1 nm
theorem Qlr (a:ZM l):ZM (QI l nm):=List.Pairwise.filter _ a
theorem Qmd {a b c:ByteArray} (d:ZL a b=true):Zi a c=Zi b c:=by unfold Zi;rw [Qfe.1 d]
theorem Qnv {a b c:ByteArray} (d:ZL b c=true):Zi a b=Zi a c:=by unfold Zi;rw [Qfe.1 d]
theorem QjO {a b:ByteArray} (c:ZL a b=true):Zi a b=false:=by rw [Qmd c];exact Qmi _
theorem QiE (k:ZM l):QI l nm=if Zu l nm then l.take (QB l nm)++l.drop (QB l nm+1) else l:=by
 induction l with
 | nil=>rfl
 | cons x l ih =>
  have g:=pairwise_cons.1 k;have i:Zi x.1 nm=false->∀ b,b ∈ l->ZL b.1 nm=false:=λa b c=>by cases d:ZL b.1 nm with| false=>rfl| true =>have:=g.1 b c;rw [Qnv d,a] at this;cases this
  have h:QI (x::l) nm=if ZL x.1 nm then QI l nm else x::QI l nm:=by unfold QI;rw [filter_cons];cases ZL x.1 nm<;>rfl
  cases a:Zi x.1 nm with
  | true =>
   have j:ZL x.1 nm=false:=by cases d:ZL x.1 nm with| false=>rfl| true=>rw [QjO d] at a;cases a
   have f:Zu (x::l) nm=Zu l nm:=by unfold Zu;rw [QhV a];simp [Qa1]
   rw [h,j,f,QhV a,ih g.2];cases Zu l nm<;>simp
  | false =>
   have m:QI l nm=l:=by unfold QI;rw [filter_eq_self];intro b c;rw [i a b c];rfl
   rw [h,m];have f:Zu (x::l) nm=ZL x.1 nm:=by unfold Zu;rw [Qja a];simp [Qa1]
   rw [f,Qja a];cases ZL x.1 nm<;>simp
theorem Qoo (a b:ByteArray) (w:World) : Xl 132 #[.string a,.string b] w λe w'=>e=.returned (Xi (Lib.compareBytes a.data.toList b.data.toList))/\w'=w:=by go_enter Tryz.func132,Tryz.ntmps132;go_wp2;rw [run_callFunc_extern Tryz.func135 (by kernel_rfl) (by kernel_rfl) (by kernel_rfl) (e:=Extern.BytealgCompare.compare) (by kernel_rfl),Lib.run_compareString];simp only [Result.andThen];rw [Oper.upon_value];go_wp2;go_ret;exact ⟨rfl,rfl⟩
theorem Qpk (a b:ByteArray) (w:World) : Xl 123 #[.string a,.string b] w λe w'=>e=.returned (Xi (Lib.compareBytes a.data.toList b.data.toList))/\w'=w:=by go_enter Tryz.func123,Tryz.ntmps123;go_wp2_with (go_at_call 132;refine (Qoo _ _ _).mono ?_;rintro e w' ⟨rfl,rfl⟩);go_ret;exact ⟨rfl,rfl⟩
def QcM (a b:ByteArray):Int:=Lib.compareBytes a.data.toList b.data.toList
theorem Qm4 (a v b:ByteArray) (w:World) : Xl 122 #[.agg #[.string a,.string v],.string b] w λe w'=>e=.returned (Xi (QcM a b))/\Xb w w':=by go_enter Tryz.func122,Tryz.ntmps122;go_wp2_with (go_at_call 123;refine (Qpk _ _ _).mono ?_;rintro e w' ⟨rfl,rfl⟩);go_ret;exact ⟨rfl,Xd⟩
theorem toList_data (a:ByteArray):a.toList=a.data.toList:=by exact Lib.toList_data a
theorem QqS (a b:ByteArray):decide (QcM a b<0)=Zi a b:=by unfold QcM Zi;rw [toList_data,toList_data];cases c:Op.bytesLess a.data.toList b.data.toList with| true=>exact Xc4 ((QlZ _ _).2 c)| false=>exact Xc3 (λe=>by rw [(QlZ _ _).1 e] at c;cases c)
theorem Qss (a b:ByteArray):decide (QcM a b=0)=ZL a b:=by
 unfold QcM ZL;rw [toList_data,toList_data];by_cases c:a.data.toList=b.data.toList
 ·rw [decide_eq_true ((QmD _ _).2 c),c,beq_self_eq_true]
 rw [decide_eq_false (λe=>c ((QmD _ _).1 e))];exact (Xd5.2 c).symm
theorem Qpn ao (n c:Nat) (l:List (ByteArray × ByteArray)) (nm:ByteArray) w (R:n=l.length) (a5:n<=5) (S:ZM l) (L:Zn w ao n (QP l) (Q6 l)) : Xl 121 #[.slice ao n c,.string nm,.func (.func 122) #[] #[]] w λe w'=>e=.returned (.tuple #[Xi (QB l nm),.bool (Zu l nm)])/\Xb w w':=by
 have H:=Qa R;have x:=Qa S;have T:=Qa L;clear R S L;go_enter Tryz.func121,Tryz.ntmps121;go_wp2;go_loopw [9,10,11] (λi j _ wr=>∃ a b:Nat,i=Xi a/\j=Xi b/\a<=b/\b<=n/\Hid (∀ t,(h:t<l.length)->t<a->Zi l[t].1 nm=true)/\Hid (∀ t,(h:t<l.length)->b<=t->Zi l[t].1 nm=false)/\Hid (Xb w wr)) (λi j _ _=>(intOf j).toNat-(intOf i).toNat);·exact ⟨0,n,rfl,rfl,X3,X0,Qa (λ_ _ m=>absurd m (Xb7 _)),Qa (λt h m=>by have:=H.out;omega),Qa X4⟩
 case round =>
  obtain ⟨a,b,rfl,rfl,a9,W,M,N,d⟩:=hrel;have a6:n<=l.length:=by have:=H.out;omega
  have a7:l.length<=n:=by have:=H.out;omega
  by_cases aa:a<b
  ·have k:(a+b) / 2<l.length:=by omega
   obtain ⟨g,o,E,u,y,z,_,_⟩:=T.out ((a+b) / 2) (by omega);subst E;have a1:wr.cell? (Xa g (o+(a+b) / 2*2))=some (.string l[(a+b) / 2].1):=by rw [d.out.cell (p:=(Xa g (o+(a+b) / 2*2))) u,y];unfold QP;rw [Xg k];rfl
   have a2:wr.cell? (Xa g (o+(a+b) / 2*2+1))=some (.string l[(a+b) / 2].2):=by rw [d.out.cell (p:=(Xa g (o+(a+b) / 2*2+1))) u,z];unfold Q6;rw [Xg k];rfl
   have A:Hid (∀ w,Xl 122 #[.agg #[.string l[(a+b) / 2].1,.string l[(a+b) / 2].2],.string nm] w λe w'=>e=.returned (Xi (QcM l[(a+b) / 2].1 nm))/\Xb w w'):=Qa (λw=>Qm4 _ _ _ w);have O:=QqS l[(a+b) / 2].1 nm;have P:Hid (∀ t,(h:t<l.length)->(Zi l[(a+b) / 2].1 nm=true->t<=(a+b) / 2->Zi l[t].1 nm=true)/\(Zi l[(a+b) / 2].1 nm=false->(a+b) / 2<=t->Zi l[t].1 nm=false)):=by
    refine Qa λt h=>⟨λm X=>?_,λm X=>?_⟩
    ·exact (Qck (nm:=nm) x.out t h).2 (by have:=(Qck (nm:=nm) x.out _ k).1 m;omega)
    cases a3:Zi l[t].1 nm with| false=>rfl| true =>have:=(Qck (nm:=nm) x.out _ k).2 (by have:=(Qck (nm:=nm) x.out t h).1 a3;omega);rw [m] at this;cases this
   generalize F:l[(a+b) / 2].1=B at *;generalize G:l[(a+b) / 2].2=a4 at *;generalize I:QcM B nm=r at *;have U:=Qa O;clear y z I O F G;by_cases K:r<0
   ·have C:Zi B nm=true:=by rw [<- U.out];exact Xc4 K
    have J:=Qa C;clear C;go_wp2_with (first|(go_at_call 122;refine (Qb A _).mono ?_;rintro e w1 ⟨rfl,f⟩;have q:=Qa f;clear f));go_roundw
    ·exact ⟨(a+b) / 2+1,b,by go_num,rfl,by omega,W,Qa (λt h m=>(P.out t h).1 J.out (by omega)),N,Qa (d.out.trans (q.out.mono d.out.size))⟩
    simp [intOf];omega
   have C:Zi B nm=false:=by rw [<- U.out];exact Xc3 K
   have J:=Qa C;clear C;go_wp2_with (first|(go_at_call 122;refine (Qb A _).mono ?_;rintro e w1 ⟨rfl,f⟩;have q:=Qa f;clear f));go_roundw;·exact ⟨a,(a+b) / 2,rfl,by go_num,by omega,by omega,M,Qa (λt h m=>(P.out t h).2 J.out m),Qa (d.out.trans (q.out.mono d.out.size))⟩
   simp [intOf];omega
  have Y:b=a:=by omega
  subst Y;have s:Hid (QB l nm=b):=Qa (Qqr x.out (by omega) M.out N.out);by_cases a8:b<n
  ·have k:b<l.length:=by omega
   obtain ⟨g,o,E,u,y,z,_,_⟩:=T.out b (by omega);subst E;have a1:wr.cell? (Xa g (o+b*2))=some (.string l[b].1):=by rw [d.out.cell (p:=(Xa g (o+b*2))) u,y];unfold QP;rw [Xg k];rfl
   have a2:wr.cell? (Xa g (o+b*2+1))=some (.string l[b].2):=by rw [d.out.cell (p:=(Xa g (o+b*2+1))) u,z];unfold Q6;rw [Xg k];rfl
   have A:Hid (∀ w,Xl 122 #[.agg #[.string l[b].1,.string l[b].2],.string nm] w λe w'=>e=.returned (Xi (QcM l[b].1 nm))/\Xb w w'):=Qa (λw=>Qm4 _ _ _ w);have V:Hid (Zu l nm=decide (QcM l[b].1 nm=0)):=by refine Qa ?_;unfold Zu;rw [s.out,Qss,decide_eq_true k,Bool.true_and,Qcg k]
   generalize F:l[b].1=B at *;generalize G:l[b].2=a4 at *;generalize I:QcM B nm=r at *;clear y z I F G;have a0:(b:Int)<(n:Int):=by omega
   by_cases D:r=0
   ·have v:Hid (Zu l nm=true):=by rw [V.out,decide_eq_true D];exact Qa rfl
    go_wp2_with (first|(go_at_call 122;refine (Qb A _).mono ?_;rintro e w1 ⟨rfl,f⟩;have q:=Qa f;clear f));go_ret2;refine ⟨?_,d.out.trans (q.out.mono d.out.size)⟩;rw [s.out,v.out];first|rfl|simp [D]
   have v:Hid (Zu l nm=false):=by rw [V.out,decide_eq_false D];exact Qa rfl
   go_wp2_with (first|(go_at_call 122;refine (Qb A _).mono ?_;rintro e w1 ⟨rfl,f⟩;have q:=Qa f;clear f));go_ret2;refine ⟨?_,d.out.trans (q.out.mono d.out.size)⟩;rw [s.out,v.out];first|rfl|simp [D]
  have v:Hid (Zu l nm=false):=by refine Qa ?_;unfold Zu;rw [s.out,decide_eq_false (by omega)];rfl
  have a0:¬ (b:Int)<(n:Int):=by omega
  go_wp2_with fail;go_ret2;refine ⟨?_,d.out⟩;rw [s.out,v.out];first|rfl|simp
def Qd4 (w:World) (v:Value) (n:Nat) (c:List Value) (e:Ending) (w':World):Prop :=
 ∃ a,e=.returned a/\w'.ownsRow 0 112 1 a (n+1) c/\w.grownBy w' v.ownBlock/\(a.ownBlock=v.ownBlock \/ ∃ b,a.ownBlock=some b/\w.heap.size<=b)
theorem Qpu (v:Value) (n i f:Nat) (h u:List Value) (w:World) (b:w.ownsRow 0 112 1 v n h) (I:i=n) (S:n<=1000000) (B:u.length=1) (o:∀ x ∈ u,x.oneCell'=true) (p:w.heap[f]?=some (.cells u.toArray 112 (0,0))) : Xl 65 #[v,Xi i,Xe f 1 1] w (Qd4 w v n (h++u)):=by
 obtain ⟨C,q,r,s,t⟩:=info_parts Qg6;obtain ⟨ao,c,rfl⟩:=Qy b;have y:n<=c:=by
  rcases b.2 with ⟨e,P⟩|⟨J,G,H,e,K,L,y,_⟩
  ·omega
  simp only [Value.slice.injEq] at e;obtain ⟨_,_,rfl⟩:=e;exact y
 have z:c<=9223372036854775807:=by
  rcases b.2 with ⟨e,P⟩|⟨J,G,H,e,K,L,_,z,_⟩
  ·simp only [Value.slice.injEq] at e;omega
  simp only [Value.slice.injEq] at e;obtain ⟨_,_,rfl⟩:=e;unfold maxLen at z;omega
 have m:∀ a,some ((Xa f 0):Addr)=some a->∀ j x,u[j]?=some x->w.cell? (a.add j)=some x:=λa e j x M=>by cases e;rw [JO,Nat.zero_add];simp only [World.cell?,p];simpa using M
 have D:=Qa b;have E:=Qa m;have F:=Qa B;have A:=Qa o;subst I;clear b m p B o;cases ao with
 | none =>go_enter Tryz.func65,Tryz.ntmps65;go_wp2_with (first|(at_builtin;refine Zp _ rfl _ _ 136 rfl 0 112 C _ 1 8 Tryz.underlying136 q r s t rfl (.slice none i c) i h rfl (Qb D) (some (Xa f 0)) 1 1 u rfl (by simp) (by rw [Qb F]) (Qb E) (Qb A) (by omega) (by omega) X3 ?_;intro l w4 k d _));all_goals (go_ret;exact ⟨l,rfl,k.out,d.out.by,d.out.at.imp id λe=>⟨_,e,X0⟩⟩)
 | some N =>obtain ⟨g,R,O⟩:=N;go_enter Tryz.func65,Tryz.ntmps65;go_wp2_with (first|(at_builtin;refine Zp _ rfl _ _ 136 rfl 0 112 C _ 1 8 Tryz.underlying136 q r s t rfl (.slice (some ⟨g,R,O⟩) i c) i h rfl (Qb D) (some (Xa f 0)) 1 1 u rfl (by simp) (by rw [Qb F]) (Qb E) (Qb A) (by omega) (by omega) X3 ?_;intro l w4 k d _));all_goals (go_ret;exact ⟨l,rfl,k.out,d.out.by,d.out.at.imp id λe=>⟨_,e,X0⟩⟩)
theorem Qt0 (g n c i k:Nat) (d u:List Value) (w:World) (o:w.ownsRow 0 112 1 (Xe g n c) n d) (aB:i<n) (a3:n+1<=c) (af:∀ x ∈ d,x.oneCell'=true) (z:u.length=1) (a5:∀ x ∈ u,x.oneCell'=true) (C:w.heap[k]?=some (.cells u.toArray 112 (0,0))) (O:k≠g) : Xl 65 #[Xe g n c,Xi i,Xe k 1 1] w (Qd4 w (Xe g n c) n (d.take (i*1)++u++d.drop (i*1))):=by
 obtain ⟨aC,a6,ao,a7,ap⟩:=info_parts Qg6;obtain ⟨a8,M,R,aq,a9⟩:=Qee o;have ak:c<=9223372036854775807:=by unfold maxLen at a9;omega
 have F:=o.1;obtain ⟨D,S,B⟩:=QmM o (m:=n+1) (by omega) a3;have T:(Tryz.prog.info? 112).map (·.size)=some 1:=by rw [a6];simp [a7]
 have U:∀ j x,u[j]?=some x->w.cell? (Xa k j)=some x:=λj x a=>by simp only [World.cell?,C];simpa using a
 have aa:∀ H I,(callFunc 82 #[Xe k 1 1,.slice (some (Xa g (i+1))) H I]).run Tryz.prog w=.ok (.value (.bool false)) w:=λH I=>by rw [run_callFunc_extern Tryz.func82 (by kernel_rfl) (by kernel_rfl) (by kernel_rfl) (e:=Extern.SlicesOverlaps.overlaps #[136,136] #[4]) (by kernel_rfl), Lib.run_overlaps_apart w 136 4 112 Tryz.underlying136 1 (λw=>Tryz.sizeOf112 w) (Xa k 0) (Xa g (i+1)) 1 1 H I O 112 112 u.toArray.size a8.size (by unfold World.shape?;rw [C]) (by unfold World.shape?;rw [M]) (by rw [R];omega) (by simp [World.frozen?,C]) (by simp [World.frozen?,C])];rfl
 have V:∀ j,j<(n+1)*1->(w.cell? (Xa g j)).isSome=true:=λj A=>by rw [B.cellAt j A,getElem?_eq_getElem (by rw [B.1];exact A)];rfl
 have W:∀ j,Xf w g j:=λj=>o.frozenAt j;obtain ⟨f,p⟩:∃ f,f=d.drop (i*1):=⟨_,rfl⟩;have E:f.length=(n-i)*1:=by rw [p,length_drop,F];omega
 have K:Nat.min (n+1-i) (n-i)=n-i:=by show min _ _=_;omega
 have N:∀ ty l J,(Builtin.copy_ #[136,136] ty #[.slice (some (Xa g (i+1))) (n-i) l,.slice (some (Xa g i)) (n+1-i) J]).run Tryz.prog w.drew=.ok (goInt ((n-i:Nat):Int)) (w.drew.setCells g (i+1) f):=λty l J=>by
  have h:=Qdz (P:=Tryz.prog) w.drew 136 136 ty 112 1 g (i+1) (n-i) l (Xa g i) (n+1-i) J f Tryz.underlying136 T (by rw [K];exact E)
   (λj x a=>by
    have ar:=(Xd3.1 a).1
    rw [JO]
    show w.cell? _=_
    rw [p,getElem?_drop] at a
    rw [o.cellAt _ (by omega)]
    rw [Nat.mul_one] at a;exact a)
   (λj A=>V _ (by omega)) (λj _=>W _) (λx a=>af x (by rw [p] at a;exact mem_of_mem_drop a))
  rw [K] at h;exact h
 obtain ⟨r,t⟩:∃ r,r=w.drew.setCells g (i+1) f:=⟨_,rfl⟩;rw [<- t] at N;have v:r.ownsRow 0 112 1 (Xe g (n+1) c) (n+1) (Z2 (d++D) (i+1) f):=by rw [t];exact QbM f (i+1) B.drew
 have G:=QaQ g f (i+1) w.drew;rw [<- t] at G;have X:(Z2 (d++D) (i+1) f).length=(n+1)*1:=v.1;have L:Nat.min 1 (n+1-i)=1:=by show min _ _=_;omega
 have a4:∀ (s:World),(∀ x,s.cell? x=r.cell? x)->(∀ x,s.frozen? x=r.frozen? x)->∀ ty l,(Builtin.copy_ #[136,136] ty #[.slice (some (Xa g i)) (n+1-i) l,Xe k 1 1]).run Tryz.prog s=.ok (goInt 1) (s.setCells g (i) u):=λs Y ab ty l=>by
  have h:=Qdz (P:=Tryz.prog) s 136 136 ty 112 1 g (i) (n+1-i) l (Xa k 0) 1 1 u Tryz.underlying136 T (by rw [L,z])
   (λj x a=>by
    rw [JO,Nat.zero_add,Y,t,World.cell?_setCells_out g _ _ _ _ (λh _=>absurd h O)]
    exact U j x a)
   (λj A=>by rw [Y,v.cellAt _ (by omega),getElem?_eq_getElem (by rw [X];omega)];rfl) (λj A=>by rw [ab];exact v.frozenAt _) a5
  rw [L] at h;exact h
 have ac:=Qa v;have q:=Qa G;have ag:=Qa F;have ad:=Qa E;have ah:=Qa p;have ai:=Qa z;have ae:=Qa S;have au:¬ (c=i+1):=by omega
 have av:¬ (c=i):=by omega
 have al:¬ ((i:Int)=(n:Int)):=by omega
 have aw:IntKind.i64.wrap ((i:Int)+1)=(i:Int)+1:=by rw [IntKind.wrap_i64];omega
 have ax:i<=n:=by omega
 have ay:((i:Int)+1).toNat=i+1:=by omega
 have az:(i:Int)<=(n:Int)+1:=by omega
 have aA:(0:Int)<=(i:Int)+1:=by omega
 have aj:¬ ((c:Int)<(n:Int)+1):=by omega
 clear o B V W v G X M U F E p z S t R;go_enter Tryz.func65,Tryz.ntmps65;go_wp2_with (simp only [aa]);go_region_law (refine step_copy_runI rfl _ _ 136 136 rfl _ _ (by simp [Act.eval,Act.put]) (by simp [Act.eval,Act.put]) (N _ _ _) ?_);go_wp2_with (at_builtin;refine wpList_copy_runI _ rfl _ _ 136 136 rfl _ _ rfl rfl (a4 _ (λ_=>rfl) (λ_=>rfl) _ _) ?_);go_ret;have a0:=QbM u (i) ac.out;have y:=QaQ g u (i) r;have a:=ag.out;have aD:=ae.out;have z:=ai.out;have p:=ad.out;refine ⟨Xe g (n+1) c,rfl,?_,⟨y.1.os.trans q.out.1.os,y.1.tape.trans (q.out.1.tape.trans rfl),y.1.output.trans q.out.1.output,?_,λb a1 a2=>(y.1.block b (by rw [q.out.2];exact a1) a2).trans (q.out.1.block b a1 a2)⟩,.inl rfl⟩
 ·have e:Z2 (Z2 (d++D) (i+1) f) (i) u=d.take (i*1)++u++d.drop (i*1):=by have h:=Qkc d D u (i*1) 1 (by omega) z (by omega);rw [<- ah.out] at h ⊢;rw [Nat.mul_one] at h ⊢;exact h
  rw [e] at a0;exact a0
 rw [y.2,q.out.2];exact X0
theorem QoL (g n c i o:Nat) (f u:List Value) (w:World) (s:w.ownsRow 0 112 1 (Xe g n c) n f) (aR:i<n) (ae:c<n+1) (aA:n<=1000000) (A:∀ x ∈ f,x.oneCell'=true) (N:u.length=1) (ah:∀ x ∈ u,x.oneCell'=true) (H:w.heap[o]?=some (.cells u.toArray 112 (0,0))) : Xl 65 #[Xe g n c,Xi i,Xe o 1 1] w (Qd4 w (Xe g n c) n (f.take (i*1)++u++f.drop (i*1))):=by
 obtain ⟨ab,a2,ai,a3,a4⟩:=info_parts Qg6;obtain ⟨aE,W,aj,aF,aG⟩:=Qee s;have a5:=s.1;have ak:g<w.heap.size:=(Xd0.1 W).1;have al:o<w.heap.size:=(Xd0.1 H).1;have a6:(Tryz.prog.info? 112).map (·.size)=some 1:=by rw [a2];simp [a3]
 have a7:∀ j x,u[j]?=some x->w.cell? (Xa o j)=some x:=λj x k=>by simp only [World.cell?,H];simpa using k
 have a8:(n:Int)+1-(i:Int)=((n+1-i:Nat):Int):=by omega
 have I:i+(n+1-i)=n+1:=by omega
 have X:(Builtin.firstCells ab.size i (Xe g i c)).run Tryz.prog w.drew=.ok (f.take (i*1)).toArray w.drew:=by
  rw [a3];exact run_firstCells_some w.drew 1 i (Xa g 0) i c (f.take (i*1)) (by rw [length_take];omega) (λj x p=>by
   rw [JO,Nat.zero_add];show w.cell? _=_;rw [getElem?_take] at p;split at p
   ·rw [s.cellAt j (by omega)];exact p
   cases p)
 have E:∀ ty,(Builtin.append_ #[136,3] ty #[Xe g i c,Xi ((n:Int)+1-(i:Int))]).run Tryz.prog w = .ok (Xe w.heap.size (n+1) (grownCap w (n+1) c 112)) (w.drew.alloc (.cells ((f.take (i*1)).toArray++Builtin.zeroCells ((.pointer none):Value).cells (n+1-i)++Builtin.zeroCells ((.pointer none):Value).cells (grownCap w (n+1) c 112-(n+1))) 112)):=λty=>by have m:=Lib.run_append_grow_zeros w 136 3 ty 112 ab _ .i64 .i64 Tryz.underlying136 Tryz.underlying3 a2 ai (some (Xa g 0)) i c (f.take (i*1)) X (n+1-i) (by omega) (by omega) (by omega) (by omega) (by rw [a4];omega) (by rw [a4,I];exact growslice_fits ae (by omega));rw [I] at m;rw [a8];exact m
 obtain ⟨G,F⟩:∃ G,G=grownCap w (n+1) c 112:=⟨_,rfl⟩;have ao:n+1<=G:=by rw [F];exact grownCap_ge w _ _ _
 have a9:G<=maxLen:=by rw [F];exact grownCap_le_maxLen w (n+1) c 112 (by unfold maxLen;omega)
 have aB:G<=9223372036854775807:=by unfold maxLen at a9;omega
 obtain ⟨a,B⟩:∃ a:Array Value,a=(f.take (i*1)).toArray++Builtin.zeroCells ((.pointer none):Value).cells (n+1-i)++Builtin.zeroCells ((.pointer none):Value).cells (G-(n+1)):=⟨_,rfl⟩;rw [<- F] at E;rw [<- B] at E;have ap:(((.pointer none):Value).cells).size=1:=rfl;have aa:a.size=G*1:=by rw [B,Array.size_append,Array.size_append,size_zeroCells,size_zeroCells,ap,size_toArray,length_take];omega
 have J:a.toList.take (i*1)=f.take (i*1):=by rw [B,Array.toList_append,Array.toList_append,append_assoc,take_append_of_le_length (by simp;omega),toList_toArray,take_take,Nat.min_self]
 obtain ⟨h,t⟩:∃ h,h=w.drew.alloc (.cells a 112):=⟨_,rfl⟩;have v:h.ownsRow 0 112 1 (Xe w.heap.size (n+1) G) (n+1) (a.toList.take ((n+1)*1)):=by refine ⟨by rw [length_take,Array.length_toList];omega,.inr ⟨w.heap.size,G,a,rfl,X3,by rw [t];exact Xc5 w.drew _,ao,a9,aa,rfl⟩⟩
 rw [<- t] at E;have C:∀ b,b<w.heap.size->h.heap[b]?=w.heap[b]?:=λb O=>by rw [t];exact heap_alloc_old w.drew _ O
 have U:Nat.min 1 (n+1-i)=1:=by show min _ _=_;omega
 have r:(a.toList.take ((n+1)*1)).length=(n+1)*1:=v.1;have ag:∀ (d:World),(∀ x,d.cell? x=h.cell? x)->(∀ x,d.frozen? x=h.frozen? x)->∀ ty q,(Builtin.copy_ #[136,136] ty #[.slice (some (Xa w.heap.size i)) (n+1-i) q,Xe o 1 1]).run Tryz.prog d=.ok (goInt 1) (d.setCells w.heap.size (i) u):=λd y K ty q=>by
  have m:=Qdz (P:=Tryz.prog) d 136 136 ty 112 1 w.heap.size (i) (n+1-i) q (Xa o 0) 1 1 u Tryz.underlying136 a6 (by rw [U,N])
   (λj x k=>by
    rw [JO,Nat.zero_add,y,Xk o j (C o al)]
    exact a7 j x k)
   (λj p=>by rw [y,v.cellAt _ (by omega),getElem?_eq_getElem (by rw [r];omega)];rfl) (λj p=>by rw [K];exact v.frozenAt _) ah
  rw [U] at m;exact m
 obtain ⟨l,z⟩:∃ l,l=f.drop (i*1):=⟨_,rfl⟩;have Y:l.length=(n-i)*1:=by rw [z,length_drop,a5];omega
 have D:=QbM u (i) v;have aq:g≠w.heap.size:=by omega
 have V:Nat.min (n-i) (n-i)=n-i:=by show min _ _=_;omega
 have a0:∀ (d:World),(∀ x,d.cell? x=(h.setCells w.heap.size (i) u).cell? x)->(∀ x,d.frozen? x=(h.setCells w.heap.size (i) u).frozen? x)->∀ ty q R,(Builtin.copy_ #[136,136] ty #[.slice (some (Xa w.heap.size (i+1))) (n-i) q,.slice (some (Xa g i)) (n-i) R]).run Tryz.prog d=.ok (goInt ((n-i:Nat):Int)) (d.setCells w.heap.size (i+1) l):=λd y K ty q R=>by
  have m:=Qdz (P:=Tryz.prog) d 136 136 ty 112 1 w.heap.size (i+1) (n-i) q (Xa g i) (n-i) R l Tryz.underlying136 a6 (by rw [V];exact Y)
   (λj x k=>by
    have aH:=(Xd3.1 k).1
    rw [JO,y,World.cell?_setCells_out _ _ _ _ _ (λm _=>absurd m aq),Xk g _ (C g ak)]
    rw [z,getElem?_drop] at k
    rw [s.cellAt _ (by omega)]
    rw [Nat.mul_one] at k;exact k)
   (λj p=>by rw [y,D.cellAt _ (by omega),getElem?_eq_getElem (by rw [QcQ,r];omega)];rfl)
   (λj p=>by rw [K];exact D.frozenAt _) (λx k=>A x (by rw [z] at k;exact mem_of_mem_drop k))
  rw [V] at m;exact m
 have a1:∀ d:World,d.heap=((h.setCells w.heap.size (i) u).setCells w.heap.size (i+1) l).heap->d.os=w.os/\d.tape=w.tape/\d.output=w.output->Qd4 w (Xe g n c) n (f.take (i*1)++u++f.drop (i*1)) (.returned (Xe w.heap.size (n+1) G)) d:=λd L M=>by
  have ac:=QbM l (i+1) D;have ad:=QaQ w.heap.size l (i+1) (h.setCells w.heap.size (i) u);have S:=QaQ w.heap.size u (i) h;have e:Z2 (Z2 (a.toList.take ((n+1)*1)) (i) u) (i+1) l=f.take (i*1)++u++f.drop (i*1):=by
   have ay:Z2 (a.toList.take ((n+1)*1)) (i) u=f.take (i)++u++(a.toList.take ((n+1)*1)).drop (i+u.length):=by rw [Qcs _ _ _ (by rw [r];omega),take_take,Nat.min_eq_left (by omega)];rw [Nat.mul_one] at J;rw [J]
   have af:(f.take (i)++u).length=i+1:=by rw [length_append,length_take,N];omega
   rw [Qcs _ _ _ (by rw [QcQ,r];omega),drop_of_length_le (by rw [QcQ,r];omega),append_nil,ay];have:=take_left (l₁:=f.take (i)++u) (l₂:=(a.toList.take ((n+1)*1)).drop (i+u.length));rw [af] at this;rw [this,z];rw [Nat.mul_one]
  rw [e] at ac;have ar:h.heap.size=w.heap.size+1:=by rw [t];simp
  have aI:d.heap.size=w.heap.size+1:=by rw [L,ad.2,S.2,ar]
  refine ⟨_,rfl,Q8 ac (λb _=>by rw [L]),⟨M.1,M.2.1,M.2.2,by omega,λb O _=>?_⟩,.inr ⟨w.heap.size,rfl,X0⟩⟩;rw [L];exact (ad.1.block b (by rw [S.2];omega) (λe=>by have:=Xb5 e;omega)).trans ((S.1.block b (by omega) (λe=>by have:=Xb5 e;omega)).trans (C b O))
 have az:=Qa a1;subst t;have au:∀ x,((w.alloc (.cells a 112)).drew).cell? x=(w.drew.alloc (.cells a 112)).cell? x:=λx=>rfl;have av:∀ x,((w.alloc (.cells a 112)).drew).frozen? x=(w.drew.alloc (.cells a 112)).frozen? x:=λx=>rfl;have aw:∀ x,(((w.alloc (.cells a 112)).drew.setCells w.heap.size (i) u).drew).cell? x=((w.drew.alloc (.cells a 112)).setCells w.heap.size (i) u).cell? x:=λx=>rfl;have ax:∀ x,(((w.alloc (.cells a 112)).drew.setCells w.heap.size (i) u).drew).frozen? x=((w.drew.alloc (.cells a 112)).setCells w.heap.size (i) u).frozen? x:=λx=>rfl;have aJ:(c:Int)<(n:Int)+1:=by omega
 have aK:¬ (G=i):=by omega
 have aC:¬ (G=i+1):=by omega
 have aL:¬ (c=i):=by omega
 have aD:¬ ((i:Int)=(n:Int)):=by omega
 have aM:IntKind.i64.wrap ((i:Int)+1)=(i:Int)+1:=by rw [IntKind.wrap_i64];omega
 have aN:(0:Int)<=(i:Int)+1:=by omega
 have aO:i<=n:=by omega
 have aP:((i:Int)+1).toNat=i+1:=by omega
 have aQ:(i:Int)<=(n:Int):=by omega
 clear a8 I X B F aa s v D a1 W H a7 a5 Y z N C J r aj;go_enter Tryz.func65,Tryz.ntmps65
 go_wp2_with (first
  | (at_builtin;refine Lib.wpList_append_run _ rfl _ _ _ _ rfl _ _ rfl rfl _ _ (E _) ?_)
  | (at_builtin;refine wpList_copy_runI _ rfl _ _ 136 136 rfl _ _ rfl rfl (ag _ au av _ _) ?_)
  | (at_builtin;refine wpList_copy_runI _ rfl _ _ 136 136 rfl _ _ rfl rfl (a0 _ (λ_=>rfl) (λ_=>rfl) _ _ _) ?_))
 go_region_law (refine step_copy_runI rfl _ _ 136 136 rfl (.slice (some (Xa w.heap.size (i+1))) (n-i) (G-(i+1))) (.slice (some (Xa g i)) (n-i) (c-i)) (by simp [Act.eval,Act.put]) (by simp [Act.eval,Act.put]) (a0 _ aw ax 3 (G-(i+1)) (c-i)) ?_);go_wp2;go_ret;have A:=(QaQ w.heap.size l (i+1) ((w.alloc (.cells a 112)).drew.setCells w.heap.size (i) u).drew).1;have T:=(QaQ w.heap.size u (i) (w.alloc (.cells a 112)).drew).1;exact az.out _ (by rw [QmE];rfl) ⟨A.os.trans T.os,A.tape.trans T.tape,A.output.trans T.output⟩
theorem QkC (v:Value) (n i b:Nat) (a u:List Value) (w:World) (d:w.ownsRow 0 112 1 v n a) (s:i<=n) (k:n<=1000000) (l:∀ x ∈ a,x.oneCell'=true) (j:u.length=1) (f:∀ x ∈ u,x.oneCell'=true) (h:w.heap[b]?=some (.cells u.toArray 112 (0,0))) (m:v.ownBlock≠some b) : Xl 65 #[v,Xi i,Xe b 1 1] w (Qd4 w v n (a.take (i*1)++u++a.drop (i*1))):=by
 have q:=d.1;by_cases e:i=n
 ·have o:a.take (i*1)++u++a.drop (i*1)=a++u:=by rw [take_of_length_le (by omega),drop_of_length_le (by omega),append_nil]
  rw [o];exact Qpu v n i b a u w d e k j f h
 rcases d.2 with ⟨_,t⟩|⟨g,c,r,rfl,_⟩
 ·omega
 by_cases p:n+1<=c
 ·exact Qt0 g n c i b a u w d (by omega) p l j f h (λe=>m (by rw [e];rfl))
 exact QoL g n c i b a u w d (by omega) (by omega) k l j f h
theorem Qqo (g n c i j:Nat) (f:List Value) (w:World) (l:w.ownsRow 0 112 1 (Xe g n c) n f) (ah:i<n) (D:j=i+1) (F:∀ x ∈ f,x.oneCell'=true) : Xl 120 #[Xe g n c,Xi i,Xi j] w λe w'=>e=.returned (Xe g (n-1) c) /\ w'.ownsRow 0 112 1 (Xe g (n-1) c) (n-1) (f.take (i*1)++f.drop ((i+1)*1))/\w.grownBy w' (some g)/\w'.heap.size=w.heap.size:=by
 obtain ⟨a5,J,a6,a7,L⟩:=Qee l;obtain ⟨P,M,a8,N,a9⟩:=info_parts Qg6;have v:=l.1;have ai:c<=9223372036854775807:=by unfold maxLen at L;omega
 obtain ⟨a,q⟩:∃ a,a=f.drop (j*1):=⟨_,rfl⟩;have s:a.length=(n-j)*1:=by rw [q,length_drop,v];omega
 have C:∀ k,k<n*1->∃ u,w.cell? (Xa g k)=some u:=λk aj=>⟨f[k]'(by omega),by rw [l.cellAt k (by omega),getElem?_eq_getElem (by omega)]⟩;obtain ⟨A,ak,K⟩:∃ A:Addr,(if c=j then some ((Xa g 0):Addr) else some (Xa g j))=some A/\Hid (∀ t u,a[t]?=some u->w.drew.cell? (A.add t)=some u):=by
  by_cases I:c=j
  ·refine ⟨(Xa g 0),by simp [I],λt u d=>?_⟩;have R:a.length=0:=by omega
   rw [length_eq_zero_iff.1 R] at d;simp at d
  refine ⟨(Xa g j),by simp [I],λt u d=>?_⟩;have r:=(Xd3.1 d).1;rw [q,getElem?_drop] at d;rw [JO];show w.cell? _=_;have aa:=(Xd3.1 d).1;rw [l.cellAt _ (by omega)];rw [Nat.mul_one] at d;exact d
 have S:Hid (a.length=(n-j)*1):=s;have T:Hid (∀ u ∈ a,u.oneCell'=true):=λu d=>F u (by rw [q] at d;exact mem_of_mem_drop d);have U:Hid (∀ t,t<a.length->(w.drew.cell? (Xa g (0+i*1+t))).isSome=true/\w.drew.frozen? (Xa g (0+i*1+t))=false):=by intro t r;rw [s] at r;obtain ⟨u,d⟩:=C (0+i*1+t) (by omega);exact ⟨by show (w.cell? _).isSome=true;rw [d];rfl,l.frozenAt _⟩
 obtain ⟨h,y⟩:∃ h,h=w.drew.setCells g (0+i*1) a:=⟨_,rfl⟩;have z:h.ownsRow 0 112 1 (Xe g n c) n (Z2 f (0+i*1) a):=by rw [y];exact QbM a (0+i*1) l.drew
 have O:(Z2 f (0+i*1) a).length=n*1:=by rw [QcQ,v]
 have a3:i+(n-j)=n-1:=by omega
 have ab:∀ ty k,(Builtin.clear_ #[136] ty #[.slice (some (Xa g ((n-1)))) (n-(n-1)) k]).run Tryz.prog h=.ok (.tuple #[]) (h.setCells g ((n-1)) [.pointer none]):=λty k=>by rw [show n-(n-1)=1 by omega];refine Qlu h 136 112 ty (.pointer none) [.pointer none] Tryz.underlying136 (λw=>Tryz.zeroValue112 w) rfl (by simp) (by simp [Value.oneCell']) g ((n-1)) k (λt r=>?_) (λt _=>z.frozenAt _);have r:t<1:=r;rw [z.cellAt _ (by omega),getElem?_eq_getElem (by omega)];rfl
 have B:=QaQ g a (0+i*1) w.drew;rw [<- y] at B;have V:=Qa z;have W:Hid (h=w.drew.setCells g (0+i*1) a):=y;have o:=Qa B;have X:=Qa q;have Y:=Qa v;have a0:=Qa s;have a1:=Qa D;have ac:i<=c:=by omega
 have ad:j<=c:=by omega
 have ae:j<=n:=by omega
 have af:¬ ((i:Int)=(j:Int)):=by omega
 have ag:n-(i+(n-j))=1:=by omega
 have a4:i<=j:=by omega
 clear y z B q v s C l F J O D;go_enter Tryz.func120,Tryz.ntmps120;go_wp2;go_region_law (refine step_append_room rfl (.tmp 22) (.tmp 25) 136 rfl 112 P 1 Tryz.underlying136 M N g 0 i c (by simp [Act.eval,Act.put]) A (n-j) (c-j) a (by simp [Act.eval,Act.put]) S.out K.out T.out (by omega) U.out ?_;rw [<- W.out]);go_wp2;go_ret;have E:=QiG (QbM [.pointer none] ((n-1)) V.out) (m:=n-1) (by omega);have p:=QaQ g [.pointer none] ((n-1)) h;have al:=Y.out;have a2:=a1.out;refine ⟨rfl,?_,⟨p.1.os.trans o.out.1.os,p.1.tape.trans (o.out.1.tape.trans ?_),p.1.output.trans o.out.1.output,?_,λb G H=>(p.1.block b (by rw [o.out.2];exact G) H).trans (o.out.1.block b G H)⟩,by rw [p.2,o.out.2];rfl⟩
 ·have e:(Z2 (Z2 f (0+i*1) a) ((n-1)) [.pointer none]).take ((n-1)*1)=f.take (i*1)++f.drop ((i+1)*1):=by rw [Qcs _ _ _ (by rw [QcQ];simp;omega),Qcs _ _ _ (by rw [a0.out];omega),X.out,a2];rw [append_assoc (List.take _ (_++_)),take_append_of_le_length (by simp;omega),take_take,Nat.min_eq_left (by omega),take_append_of_le_length (by simp;omega),take_of_length_le (by simp;omega)];rw [Nat.zero_add]
  rw [e] at E;exact E
 ·rfl
 rw [p.2,o.out.2];exact X0
theorem Qea {a b:ByteArray} (c:a.toList=b.toList):a=b:=by rw [ByteArray.toList_eq,ByteArray.toList_eq] at c;apply ByteArray.ext;exact Array.ext' c
theorem Qjx {a b:ByteArray} (c:ZL a b=true):a=b:=Qea (Qfe.1 c)
theorem Qgm (a:k<l.length):l.take (k+1)=l.take k++[l[k]]:=by rw [take_succ_eq_append_getElem a]
theorem QlM {vl:ByteArray} (f:ZM l):∀ k,k<=QB l nm->Zy l nm vl k=(l.take k,false):=by
 intro k;induction k with
 | zero=>intro _;rfl
 | succ k ih =>
  intro h;have a:k<l.length:=by have:=QdL l nm;omega
  have b:=(Qck (nm:=nm) f k a).2 (by omega);have c:ZL l[k].1 nm=false:=by cases g:ZL l[k].1 nm with| false=>rfl| true=>rw [QjO g] at b;cases b
  have d:Op.bytesLess l[k].1.toList nm.toList=true:=b;unfold Zy;simp only [ih (by omega),Qcg a,d,c,Qgm a];simp
def Qap (l:List (ByteArray × ByteArray)) (nm:ByteArray):Nat:=if Zu l nm then 1 else 0
theorem Qvk {vl:ByteArray} (b:ZM l):∀ k,k<=l.length->QB l nm<k->Zy l nm vl k=(l.take (QB l nm)++[(nm,vl)]++(l.take k).drop (QB l nm+Qap l nm),true):=by
 intro k;induction k with
 | zero=>intro _ m;exact absurd m (Xb7 _)
 | succ k ih =>
  intro p q;have a:k<l.length:=by omega
  have c:Op.bytesLess l[k].1.toList nm.toList=false:=by cases h:Op.bytesLess l[k].1.toList nm.toList with| false=>rfl| true=>have:=(Qck (nm:=nm) b k a).1 h;omega
  by_cases e:k=QB l nm
  ·have i:Zu l nm=ZL l[k].1 nm:=by unfold Zu;rw [<- e,decide_eq_true a,Bool.true_and,Qcg a]
   unfold Zy;simp only [QlM (nm:=nm) (vl:=vl) b k (by omega),Qcg a,c];unfold Qap;rw [i,<- e];cases n:ZL l[k].1 nm with| true =>simp| false =>simp;rw [Qgm a,drop_append,drop_of_length_le (by rw [length_take];omega),length_take,Nat.min_eq_left (by omega),Nat.sub_self];rfl
  have g:ZL l[k].1 nm=false:=by
   cases j:ZL l[k].1 nm with
   | false=>rfl
   | true =>
    have d:QB l nm<l.length:=by omega
    have f:Zi l[QB l nm].1 l[k].1=true:=Xb1.1 b _ _ d a (by omega);rw [Qnv j] at f;have:=(Qck (nm:=nm) b _ d).1 f;omega
  unfold Zy;simp only [ih (by omega) (by omega),Qcg a,c,g];simp;have o:Qap l nm<=1:=by unfold Qap;split<;>omega
  rw [Qgm a,drop_append_of_le_length (by rw [length_take];omega)]
theorem QfM {vl:ByteArray} (a:ZM l):QQ l nm vl=l.take (QB l nm)++[(nm,vl)]++l.drop (QB l nm+Qap l nm):=by
 have c:=QdL l nm;unfold QQ;by_cases e:QB l nm<l.length
 ·rw [Qvk a _ X0 e];simp
 have e:QB l nm=l.length:=by omega
 rw [QlM (nm:=nm) (vl:=vl) a _ (by omega)];have b:Qap l nm=0:=by unfold Qap Zu;rw [decide_eq_false (by omega)];rfl
 rw [b,e];simp
theorem Qgg {vl:ByteArray} (d:ZM l):ZM (QQ l nm vl):=by
 rw [QfM d];have r:=QdL l nm;have k:∀ x,x ∈ l.take (QB l nm)->Zi x.1 nm=true:=λx a=>by obtain ⟨i,g,rfl⟩:=Xa3 a;rw [length_take] at g;rw [getElem_take];exact (Qck d i (by omega)).2 (by omega)
 have m:∀ x,x ∈ l.drop (QB l nm+Qap l nm)->Zi nm x.1=true:=λx a=>by
  obtain ⟨i,g,rfl⟩:=Xa3 a;rw [length_drop] at g;rw [getElem_drop];cases b:Zu l nm with
  | true =>
   have p:Qap l nm=1:=by unfold Qap;rw [b];rfl
   have c:QB l nm<l.length:=by omega
   have n:ZL l[QB l nm].1 nm=true:=by unfold Zu at b;rw [decide_eq_true c,Bool.true_and,Qcg c] at b;exact b
   have:=Xb1.1 d _ (QB l nm+Qap l nm+i) c (by omega) (by omega);rw [Qmd n] at this;exact this
  | false =>
   have p:Qap l nm=0:=by unfold Qap;rw [b];rfl
   have c:QB l nm<l.length:=by omega
   have o:Zi l[QB l nm].1 nm=false:=by cases a:Zi l[QB l nm].1 nm with| false=>rfl| true=>have:=(Qck d _ c).1 a;omega
   have j:Zi nm l[QB l nm].1=true:=by cases a:Zi nm l[QB l nm].1 with| true=>rfl| false =>have:=Qsb _ _ o a;unfold Zu at b;rw [decide_eq_true c,Bool.true_and,Qcg c] at b;rw [Qfe.2 this] at b;cases b
   by_cases q:i=0
   ·subst q;have e:QB l nm+Qap l nm+0=QB l nm:=by omega
    simp only [e];exact j
   have:=Xb1.1 d _ (QB l nm+Qap l nm+i) c (by omega) (by omega);exact Qe6 _ _ _ j this
 unfold ZM;rw [append_assoc,pairwise_append];refine ⟨d.sublist (take_sublist _ _),?_,λx a h f=>?_⟩
 ·rw [singleton_append,pairwise_cons];exact ⟨λh f=>m h f,d.sublist (drop_sublist _ _)⟩
 rcases Xa4.1 f with f|f
 ·rw [mem_singleton.1 f];exact k x a
 exact Qe6 _ _ _ (k x a) (m h f)
theorem QvJ (g n c i j:Nat) (f:List Value) (w:World) (l:w.ownsRow 0 72 2 (Xe g n c) n f) (ah:i<n) (D:j=i+1) (F:∀ x ∈ f,x.oneCell'=true) : Xl 108 #[Xe g n c,Xi i,Xi j] w λe w'=>e=.returned (Xe g (n-1) c) /\ w'.ownsRow 0 72 2 (Xe g (n-1) c) (n-1) (f.take (i*2)++f.drop ((i+1)*2))/\w.grownBy w' (some g)/\w'.heap.size=w.heap.size:=by
 obtain ⟨a5,J,a6,a7,L⟩:=Qee l;obtain ⟨P,M,a8,N,a9⟩:=info_parts Qcr;have v:=l.1;have ai:c<=9223372036854775807:=by unfold maxLen at L;omega
 obtain ⟨a,q⟩:∃ a,a=f.drop (j*2):=⟨_,rfl⟩;have s:a.length=(n-j)*2:=by rw [q,length_drop,v];omega
 have C:∀ k,k<n*2->∃ u,w.cell? (Xa g k)=some u:=λk aj=>⟨f[k]'(by omega),by rw [l.cellAt k (by omega),getElem?_eq_getElem (by omega)]⟩;obtain ⟨A,ak,K⟩:∃ A:Addr,(if c=j then some ((Xa g 0):Addr) else some (Xa g (j*2)))=some A/\Hid (∀ t u,a[t]?=some u->w.drew.cell? (A.add t)=some u):=by
  by_cases I:c=j
  ·refine ⟨(Xa g 0),by simp [I],λt u d=>?_⟩;have R:a.length=0:=by omega
   rw [length_eq_zero_iff.1 R] at d;simp at d
  refine ⟨(Xa g (j*2)),by simp [I],λt u d=>?_⟩;have r:=(Xd3.1 d).1;rw [q,getElem?_drop] at d;rw [JO];show w.cell? _=_;have aa:=(Xd3.1 d).1;rw [l.cellAt _ (by omega)];exact d
 have S:Hid (a.length=(n-j)*2):=s;have T:Hid (∀ u ∈ a,u.oneCell'=true):=λu d=>F u (by rw [q] at d;exact mem_of_mem_drop d);have U:Hid (∀ t,t<a.length->(w.drew.cell? (Xa g (0+i*2+t))).isSome=true/\w.drew.frozen? (Xa g (0+i*2+t))=false):=by intro t r;rw [s] at r;obtain ⟨u,d⟩:=C (0+i*2+t) (by omega);exact ⟨by show (w.cell? _).isSome=true;rw [d];rfl,l.frozenAt _⟩
 obtain ⟨h,y⟩:∃ h,h=w.drew.setCells g (0+i*2) a:=⟨_,rfl⟩;have z:h.ownsRow 0 72 2 (Xe g n c) n (Z2 f (0+i*2) a):=by rw [y];exact QbM a (0+i*2) l.drew
 have O:(Z2 f (0+i*2) a).length=n*2:=by rw [QcQ,v]
 have a3:i+(n-j)=n-1:=by omega
 have ab:∀ ty k,(Builtin.clear_ #[31] ty #[.slice (some (Xa g ((n-1)*2))) (n-(n-1)) k]).run Tryz.prog h=.ok (.tuple #[]) (h.setCells g ((n-1)*2) [Xo,Xo]):=λty k=>by rw [show n-(n-1)=1 by omega];refine Qlu h 31 72 ty (.agg #[Xo,Xo]) [Xo,Xo] Tryz.underlying31 (λw=>Tryz.zeroValue72 w) rfl (by simp) (by simp [Value.oneCell']) g ((n-1)*2) k (λt r=>?_) (λt _=>z.frozenAt _);have r:t<2:=r;rw [z.cellAt _ (by omega),getElem?_eq_getElem (by omega)];rfl
 have B:=QaQ g a (0+i*2) w.drew;rw [<- y] at B;have V:=Qa z;have W:Hid (h=w.drew.setCells g (0+i*2) a):=y;have o:=Qa B;have X:=Qa q;have Y:=Qa v;have a0:=Qa s;have a1:=Qa D;have ac:i<=c:=by omega
 have ad:j<=c:=by omega
 have ae:j<=n:=by omega
 have af:¬ ((i:Int)=(j:Int)):=by omega
 have ag:n-(i+(n-j))=1:=by omega
 have a4:i<=j:=by omega
 clear y z B q v s C l F J O D;go_enter Tryz.func108,Tryz.ntmps108;go_wp2;go_region_law (refine step_append_room rfl (.tmp 22) (.tmp 25) 31 rfl 72 P 2 Tryz.underlying31 M N g 0 i c (by simp [Act.eval,Act.put]) A (n-j) (c-j) a (by simp [Act.eval,Act.put]) S.out K.out T.out (by omega) U.out ?_;rw [<- W.out]);go_wp2;go_ret;have E:=QiG (QbM [Xo,Xo] ((n-1)*2) V.out) (m:=n-1) (by omega);have p:=QaQ g [Xo,Xo] ((n-1)*2) h;have al:=Y.out;have a2:=a1.out;refine ⟨rfl,?_,⟨p.1.os.trans o.out.1.os,p.1.tape.trans (o.out.1.tape.trans ?_),p.1.output.trans o.out.1.output,?_,λb G H=>(p.1.block b (by rw [o.out.2];exact G) H).trans (o.out.1.block b G H)⟩,by rw [p.2,o.out.2];rfl⟩
 ·have e:(Z2 (Z2 f (0+i*2) a) ((n-1)*2) [Xo,Xo]).take ((n-1)*2)=f.take (i*2)++f.drop ((i+1)*2):=by rw [Qcs _ _ _ (by rw [QcQ];simp;omega),Qcs _ _ _ (by rw [a0.out];omega),X.out,a2];rw [append_assoc (List.take _ (_++_)),take_append_of_le_length (by simp;omega),take_take,Nat.min_eq_left (by omega),take_append_of_le_length (by simp;omega),take_of_length_le (by simp;omega)];rw [Nat.zero_add]
  rw [e] at E;exact E
 ·rfl
 rw [p.2,o.out.2];exact X0
end Go.Proofs.YtobgcaemnpkbmaaGreat
