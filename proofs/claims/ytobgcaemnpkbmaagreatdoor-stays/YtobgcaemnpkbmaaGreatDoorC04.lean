import Derived.Test.YtobgcaemnpkbmaaGreatDoorC03
import Derived.Shelf.Spec.SlicesInsert
import Derived.Lib.AppendZerosOnto
import Derived.Laws.NewBlocks
import Derived.Maps.OwnSet
import Derived.Maps.OwnOps
import Derived.Lib.Bytealg
import Derived.Lib.Slices
namespace Go.Proofs.YtobgcaemnpkbmaaGreatDoor
set_option maxRecDepth 100000
set_option maxHeartbeats 8000000
open Go.RowKit List
attribute [local go_sem ↓] Go.wp_at_zero Go.wp_at_succ
theorem QnN (w:World) (xs:Array Value) (t:TypeId) (n:Nat) (b:n=w.heap.size):∀ a,some ((Xa n 0):Addr)=some a->∀ j u,xs.toList[j]?=some u->(w.alloc (.cells xs t)).cell? (a.add j)=some u:=by subst b;exact Z9 w xs t
theorem ZL (w:World) (a:Addr) (u:Value):(w.setCell a u).heap.size=w.heap.size:=by simp [World.setCell]
theorem Qk7 {w:World} {b:Nat} {e:TypeId} {size:Nat} {v:Value} {n:Nat} {xs:List Value} (h:w.ownsRow b e size v n xs) {a:Addr} {u:Value} (c:v.ownBlock=none \/ v.ownBlock≠some a.block):(w.setCell a u).ownsRow b e size v n xs := h.kept (row:=some a.block) ⟨rfl,rfl,rfl,by rw [ZL];exact Nat.le_refl _,λk _ d=>Below.heap_setCell _ _ _ _ (λe=>d (by rw [e]))⟩ c
theorem ZB.base {d b:Nat} {w:World} {q:Value} {f:List TN} (h:ZB d w q f) (c:b<=d):ZB b w q f := ⟨Qbv h.row c,λn a=>⟨(h.node n a).an,(h.node n a).tag,(h.node n a).text,Qbv (h.node n a).row c,(h.node n a).size,(h.node n a).ne⟩,h.far⟩
theorem Qz {w:World} {a:Nat} {e:TypeId} {size:Nat} {v:Value} {n:Nat} {xs:List Value} (h:w.ownsRow a e size v n xs):∃ ao c,v=.slice ao n c:=by
 rcases h.2 with ⟨rfl,rfl⟩|⟨g,cap,b,rfl,_⟩
 ·exact ⟨none,0,rfl⟩
 exact ⟨_,cap,rfl⟩
def ZK (a b:ByteArray):Bool:=a.toList==b.toList
def Qa2 (l:List (ByteArray × ByteArray)) (k:Nat):ByteArray × ByteArray:=l.getD k (ByteArray.empty,ByteArray.empty)
theorem Qcr {l:List (ByteArray × ByteArray)} {k:Nat} (h:k<l.length):Qa2 l k=l[k]:=by unfold Qa2;rw [Xg h];rfl
def ZE (l:List (ByteArray × ByteArray)) (nm:ByteArray):List (ByteArray × ByteArray):=l.filter λx=>!ZK x.1 nm
def Qav (l:List (ByteArray × ByteArray)) (nm vl:ByteArray):Nat->List (ByteArray × ByteArray) × Bool
 | 0=>([],false)
 | k+1 =>
  let r:=Qav l nm vl k
  let a:=if r.2=false/\Op.bytesLess (Qa2 l k).1.toList nm.toList=false then r.1++[(nm,vl)] else r.1
  (if ZK (Qa2 l k).1 nm then a else a++[Qa2 l k],r.2||!Op.bytesLess (Qa2 l k).1.toList nm.toList)
def ZZ (l:List (ByteArray × ByteArray)) (nm vl:ByteArray):List (ByteArray × ByteArray):=if (Qav l nm vl l.length).2 then (Qav l nm vl l.length).1 else (Qav l nm vl l.length).1++[(nm,vl)]
def Qdl (R:List RN) (id:Int):Int:=QaL R (QX R id).toNat
def ZM (R:List RN):Nat->Int->Int->Bool
 | 0,_,_=>false
 | f+1,id,other=>if id=0 then false else if id=other then true else ZM R f (Qdl R id) other
theorem Qn1 (R:List RN) (f:Nat) (a:Int):ZM R f 0 a=false:=by cases f<;>simp [ZM]
structure Up (R:List RN) (rk:Int->Nat):Prop where
 par:∀ n,n ∈ R->n.par=0 \/ ∃ m,m ∈ R/\m.id=n.par
 rank:∀ n,n ∈ R->n.par≠0->rk n.par<rk n.id
def QfE (S:Nat->Prop) (w w':World):Nat->Prop:=λb=>S b \/ (w.heap.size<=b/\b<w'.heap.size)
def pv (p:Nat) (v:Value) (b:Nat):Prop:=b=p \/ v.ownBlock=some b
def QhC (S:Nat->Prop) (w w':World) (p:Nat) (R:List RN) (last:Int) (v a:Value):Prop:=Qbb (QfE S w w') w' p R last a/\∀ b,a.ownBlock=some b->v.ownBlock=some b \/ w.heap.size<=b
theorem RN.cells_one (n:RN):∀ u ∈ n.cells,u.oneCell'=true:=by intro u a;simp [RN.cells] at a;rcases a with rfl|rfl|rfl|rfl|rfl|rfl<;>rfl
def JO (R:List RN) (n:RN) (fr:Nat) (bf:Int):Nat->List RN
 | 0=>[]
 | k+1=>JO R n fr bf k++(if bf≠0/\Qj R k=bf then [n] else [])++(if k=fr then [] else (R.drop k).take 1)
def Q6 (R:List RN) (n:RN) (fr:Nat) (bf:Int):List RN:=JO R n fr bf R.length++(if bf=0 then [n] else [])
theorem Qcl {R:List RN} {k:Nat} (h:k<R.length):(R.drop k).take 1=[R[k]]:=by rw [drop_eq_getElem_cons h];rfl
structure Qn where
 kind:Int
 id:Int
 par:Int
 bef:Int
 key:Int
 tag:ByteArray
 name:ByteArray
 text:ByteArray
def Qn.val (x:Qn):Value:=.agg #[Xi x.kind,Xi x.id,Xi x.par,Xi x.bef,Xi x.key,.string x.tag,.string x.name,.string x.text]
def Qcc (a:List (Nat × Int)) (i:Nat):Bool:=a.any λx=>x.1==i
def Qa1 (R:List RN) (a:List (Nat × Int)):Nat->List RN
 | 0=>[]
 | k+1=>Qa1 R a k++(if Qcc a k then [] else (R.drop k).take 1)
def rmP (R:List RN) (a:List (Nat × Int)):List RN:=Qa1 R a R.length
theorem Qsj {R:List RN} {a:List (Nat × Int)} {k:Nat} {n:RN} (h:n ∈ Qa1 R a k):n ∈ R:=by
 induction k with
 | zero=>simp [Qa1] at h
 | succ k ih =>
  rw [Qa1] at h;rcases mem_append.1 h with h|h
  ·exact ih h
  split at h
  ·simp at h
  exact mem_of_mem_drop (mem_of_mem_take h)
theorem RN.Ok.moved {S S':Nat->Prop} {w w':World} {n:RN} (h:n.Ok S w) (i:∀ b,b<w.heap.size->S b->S' b) (d:w.heap.size<=w'.heap.size) (hb:∀ a,n.ao=some a->w'.heap[a.block]?=w.heap[a.block]?):n.Ok S' w':=by refine ⟨h.an,h.few,h.nil,h.tag,h.text,?_,λa e=>⟨i _ (h.own a e).2 (h.own a e).1,Nat.lt_of_lt_of_le (h.own a e).2 d⟩⟩;intro j k;obtain ⟨b,c,e,g,l,m,o,p⟩:=h.at' j k;have f:w'.heap[b]?=w.heap[b]?:=hb _ e;exact ⟨b,c,e,Nat.lt_of_lt_of_le g d,(Xk b (c+j*2) f).trans l,(Xk b (c+j*2+1) f).trans m,o,p⟩
def QiM (b:Bool) (P a:Prop):Prop:=(b=true->P)/\(b=false->a)
theorem QiM.no {P a:Prop} (h:a):QiM false P a:=⟨λh=>(nomatch h),λ_=>h⟩
def Jt (tag:ByteArray) (key:Int) (text:ByteArray):Qd:=⟨0,tag,key,none,0,0,text,λ_=>⟨#[]⟩,λ_=>⟨#[]⟩⟩
theorem Qej (w:World) {tag text:ByteArray} (key:Int) (a:tag.size<=maxLen) (b:text.size<=maxLen):(Jt tag key text).Ok w:=⟨Nat.zero_le _,a,b,λ_ c=>absurd c (Nat.not_lt_zero _)⟩
def Qc5 (a:Nat) (last:Int) (x:Qn):Bool:=QbY (Jt x.tag x.key x.text)&&(x.id==last+1)&&decide (a<800)&&(x.par==0)&&(x.bef==0)&&x.name.toList.isEmpty
def QfP (x:Qn):RN:={ id:=x.id,par:=0,tag:=x.tag,key:=x.key,text:=x.text,ats:=[],ao:=none,an:=0,ac:=0 }
structure Qn.Ok (x:Qn):Prop where
 tag:x.tag.size<=maxLen
 name:x.name.size<=maxLen
 text:x.text.size<=maxLen
theorem QgB:(Tryz.prog.info? 140).map (λi=>(i.zero,i.size,i.bytes))=some (some (.pointer none),1,8):=by kernel_rfl
def Zj (xs:List Value):Nat->List Value->List Value
 | _,[]=>xs
 | o,v::r=>Zj (xs.set o v) (o+1) r
theorem Qbe (xs:List Value):∀ (a:List Value) (b:Nat),(Zj xs b a).length=xs.length:=by
 intro a;induction a generalizing xs with
 | nil=>intro b;rfl
 | cons v r ih=>intro b;rw [Zj,ih,length_set]
theorem Qa7 (xs:List Value):∀ (b:List Value) (a:Nat),a+b.length<=xs.length->Zj xs a b=xs.take a++b++xs.drop (a+b.length):=by
 intro b;induction b generalizing xs with
 | nil=>intro a _;simp [Zj]
 | cons v r ih =>
  intro a c;rw [length_cons] at c;rw [Zj,ih _ (a+1) (by rw [length_set];omega)];have d:(xs.set a v).take (a+1)=xs.take a++[v]:=by rw [take_add_one,getElem?_set,if_pos rfl,if_pos (by omega),take_set_of_le (Nat.le_refl _)];rfl
  have f:(xs.set a v).drop (a+1+r.length)=xs.drop (a+(v::r).length):=by
   rw [drop_set_of_lt (by omega),length_cons];congr 1
   omega
  rw [d,f];simp
theorem Qie (xs b u:List Value) (a s:Nat) (c:a<=xs.length) (d:u.length=s) (f:b.length=s):Zj (Zj (xs++b) (a+s) (xs.drop a)) a u=xs.take a++u++xs.drop a:=by
 have l:(xs++b).length=xs.length+s:=by rw [length_append,f]
 have m:(xs.drop a).length=xs.length-a:=length_drop;have g:(xs++b).drop (a+s+(xs.drop a).length)=[]:=drop_of_length_le (by omega);have h:Zj (xs++b) (a+s) (xs.drop a)=(xs++b).take (a+s)++xs.drop a:=by rw [Qa7 _ _ _ (by omega),g,append_nil]
 have i:((xs++b).take (a+s)).length=a+s:=by rw [length_take];omega
 rw [h,Qa7 _ _ _ (by rw [length_append];omega),d];have j:((xs++b).take (a+s)++xs.drop a).take a=xs.take a:=by rw [take_append_of_le_length (by omega),take_take,Nat.min_eq_left (by omega),take_append_of_le_length c]
 have k:((xs++b).take (a+s)++xs.drop a).drop (a+s)=xs.drop a:=by have:=drop_left (l₁:=(xs++b).take (a+s)) (l₂:=xs.drop a);rwa [i] at this
 rw [j,k]
theorem J9 {d:Nat} {e:TypeId} {size g n c:Nat}:∀ (b:List Value) (a:Nat) {w:World} {xs:List Value},w.ownsRow d e size (Xe g n c) n xs->(w.setCells g a b).ownsRow d e size (Xe g n c) n (Zj xs a b):=by
 intro b;induction b with
 | nil=>intro a w xs h;exact h
 | cons v r ih=>intro a w xs h;exact ih (a+1) (h.stored a v).1
theorem Qif {w:World} {a:Nat} {e:TypeId} {size g n c m:Nat} {xs:List Value} (h:w.ownsRow a e size (Xe g n c) n xs) (j:m<=n):w.ownsRow a e size (Xe g m c) m (xs.take (m*size)):=by
 have q:=h.1;have b:m*size<=n*size:=Nat.mul_le_mul_right size j;refine ⟨by rw [length_take];omega,.inr ?_⟩;rcases h.2 with ⟨e,_⟩|⟨r,cap,d,e,hb,k,p,f,i,l⟩
 ·simp at e
 simp only [Value.slice.injEq] at e;obtain ⟨o,_,rfl⟩:=e;cases o;refine ⟨g,c,d,rfl,hb,k,by omega,f,i,?_⟩;rw [<- l,take_take,Nat.min_eq_left b]
theorem QgI {w:World} {k:Nat} {e:TypeId} {size g n c m:Nat} {xs:List Value} (h:w.ownsRow k e size (Xe g n c) n xs) (p:n<=m) (i:m<=c):∃ j,j.length=(m-n)*size/\w.ownsRow k e size (Xe g m c) m (xs++j):=by
 have q:=h.1;rcases h.2 with ⟨e,_⟩|⟨v,cap,a,e,hb,r,u,l,b,s⟩
 ·simp at e
 simp only [Value.slice.injEq] at e;obtain ⟨t,_,rfl⟩:=e;cases t;have o:n*size<=m*size:=Nat.mul_le_mul_right size p;have d:m*size<=c*size:=Nat.mul_le_mul_right size i;have f:a.toList.length=a.size:=Array.length_toList;refine ⟨(a.toList.take (m*size)).drop (n*size),by rw [length_drop,length_take,f,b,Nat.min_eq_left d,Nat.sub_mul],?_,.inr ⟨g,c,a,rfl,hb,r,i,l,b,?_⟩⟩
 ·rw [length_append,length_drop,length_take,f,b,Nat.min_eq_left d,q];omega
 rw [<- s];have:a.toList.take (n*size)=(a.toList.take (m*size)).take (n*size):=by rw [take_take,Nat.min_eq_left o]
 rw [this,take_append_drop]
theorem Qcp {w:World} {k:Nat} {e:TypeId} {size g n c:Nat} {xs:List Value} (h:w.ownsRow k e size (Xe g n c) n xs):∃ a,w.heap[g]?=some (.cells a e (0,0))/\a.size=c*size/\n<=c/\c<=maxLen:=by
 rcases h.2 with ⟨e,_⟩|⟨l,cap,a,e,hb,i,b,d,f,m⟩
 ·simp at e
 simp only [Value.slice.injEq] at e;obtain ⟨j,_,rfl⟩:=e;cases j;exact ⟨a,i,f,b,d⟩
theorem Jj (b:Nat):∀ (c:List Value) (a:Nat) (w:World),w.grownBy (w.setCells b a c) (some b)/\(w.setCells b a c).heap.size=w.heap.size:=by
 intro c;induction c with
 | nil=>intro a w;exact ⟨⟨rfl,rfl,rfl,Nat.le_refl _,λ_ _ _=>rfl⟩,rfl⟩
 | cons v r ih =>intro a w;obtain ⟨h,f⟩:=ih (a+1) (w.setCell (Xa b a) v);have d:(w.setCell (Xa b a) v).heap.size=w.heap.size:=ZL _ _ _;refine ⟨⟨h.os,h.tape,h.output,by rw [World.setCells,f,d];exact Nat.le_refl _,λk i g=>?_⟩,by rw [World.setCells,f,d]⟩;exact (h.block k (by rw [d];exact i) g).trans (Below.heap_setCell w (Xa b a) v k (λe=>g (by rw [e])))
theorem Qib (b c:Nat) (a:List Value) (w:World):(w.drew.setCells b c a).heap=(w.setCells b c a).heap:=by rw [<- drew_setCells];rfl
theorem QT {w w':World} {base:Nat} {e:TypeId} {size:Nat} {v:Value} {n:Nat} {xs:List Value} (h:w.ownsRow base e size v n xs) (hb:∀ b,v.ownBlock=some b->w'.heap[b]?=w.heap[b]?):w'.ownsRow base e size v n xs:=by
 refine ⟨h.1,?_⟩;rcases h.2 with d|⟨g,cap,a,rfl,f,c,rest⟩
 ·exact .inl d
 exact .inr ⟨g,cap,a,rfl,f,(hb g rfl).trans c,rest⟩
theorem Qbo {P:Program} (w:World) (k r s d:TypeId) (size:Nat) (b c f n:Nat) (a:Addr) (g o:Nat) (cs:List Value) (t:P.underlying k=some (.slice d)) (l:(P.info? d).map (·.size)=some size) (u:cs.length=Nat.min g f*size) (p:∀ j v,cs[j]?=some v->w.cell? (a.add j)=some v) (x:∀ j,j<cs.length->(w.cell? (Xa b (c+j))).isSome=true) (y:∀ j,j<cs.length->w.frozen? (Xa b (c+j))=false) (z:∀ v ∈ cs,v.oneCell'=true) : (Builtin.copy_ #[k,r] s #[.slice (some (Xa b c)) f n,.slice (some a) g o]).run P w=.ok (goInt (Nat.min g f)) (w.setCells b c cs):=by
 have m:=run_loadCells_list (P:=P) w a cs p;have q:=run_storeCells_cells (P:=P) b c cs 0 w (by simpa using x) (by simpa using y) z;cases h:P.info? d with
 | none=>simp [h] at l
 | some i =>
  have A:i.size=size:=by simpa [h] using l
  rw [u] at m;simp [Builtin.copy_,run_underlying t,Builtin.lenOf,Builtin.firstCells,sizeOf,typeInfo,h,A,m,q]
theorem QjX {P:Program} (w:World) (t e k:TypeId) (z:Value) (zs:List Value) (l:P.underlying t=some (.slice e)) (m:∀ w,(zeroValue e).run P w=.ok z w) (n:z.cells=zs.toArray) (_h0:0<zs.length) (f:∀ v ∈ zs,v.oneCell'=true) (b a c:Nat) (o:∀ j,j<zs.length->(w.cell? (Xa b (a+j))).isSome=true) (p:∀ j,j<zs.length->w.frozen? (Xa b (a+j))=false) : (Builtin.clear_ #[t] k #[.slice (some (Xa b a)) 1 c]).run P w=.ok (.tuple #[]) (w.setCells b a zs):=by
 have h:(Builtin.zeroCells z.cells 1).toList=zs:=by
  rw [n];simp only [Builtin.zeroCells,Nat.one_mul,size_toArray];apply ext_getElem
  ·simp
  intro i f g;simp only [Array.toList_map,Array.toList_range,getElem_map,getElem_range];rw [Nat.mod_eq_of_lt g,getElem!_pos zs.toArray i (by simpa using g)];simp
 have d:=run_storeCells_cells (P:=P) b a zs 0 w (by simpa using o) (by simpa using p) f;simp only [Nat.add_zero] at d;simp [Builtin.clear_,run_underlying l,m,h,d]
open Go.Maps (Keyed int_keyed keyOf_int_mk)
theorem QeH:Keyed Tryz.prog 3:=int_keyed Tryz.underlying3
def QbR (v:Value):Option (DataW Value × List MemPlace):=some (.held v,[])
def QcD (x:Option Nat):Value:=.pointer (x.map λb=>(Xa b 0))
def Qg (i:Int):Prop:=-9223372036854775808<=i/\i<=9223372036854775807
theorem Qe2 {i:Int} (h:Qg i):(Lit.int .i64 i).wf=true:=by obtain ⟨c,d⟩:=h;have a:IntKind.i64.min=-9223372036854775808:=rfl;have b:IntKind.i64.max=9223372036854775807:=rfl;simp [Lit.wf,a,b];omega
def Je (w:World) (b:Nat) (f:Int->Option Nat) (a:Nat):Prop :=
 ∃ D:DataW Value,w.ownsMap Tryz.prog 3 QbR b a D/\Go.Maps.size D=a/\∀ i,Qg i->Go.Maps.has D (.int .i64 i)=(f i).isSome/\D.atKey (.int .i64 i) (.held (.pointer none))=.held (QcD (f i))
theorem Je.heap {w w':World} {a:Nat} {f:Int->Option Nat} {b:Nat} (h:Je w a f b) (hb:w'.heap[a]?=w.heap[a]?):Je w' a f b:=by obtain ⟨D,⟨d,c,g,i⟩,j,k⟩:=h;exact ⟨D,⟨d,c,hb.trans g,i⟩,j,k⟩
theorem Je.lt {w:World} {a:Nat} {f:Int->Option Nat} {b:Nat} (h:Je w a f b):a<w.heap.size:=by obtain ⟨D,h,_⟩:=h;exact h.lt
theorem Je.made (w:World):Je (w.alloc (.map #[] 0)) w.heap.size (λ_=>none) 0 := ⟨.map [],World.ownsMap_made w _ _ _,rfl,λ_i _=>⟨rfl,rfl⟩⟩
theorem Je.look {w:World} {b:Nat} {f:Int->Option Nat} {k:Nat} (h:Je w b f k) {i:Int} (c:Qg i):(Instr.lookup 139 (.map (some b)) (.int .i64 i) false).run Tryz.prog w=.ok (QcD (f i)) w:=by obtain ⟨D,d,_,g⟩:=h;obtain ⟨v,ps,j,a⟩:=d.lookup QeH Tryz.underlying139 (Tryz.zeroValue140 w) (zd:=.held (.pointer none)) (zp:=[]) rfl (keyOf_int_mk Tryz.underlying3 (Qe2 c));rw [(g i c).2] at a;unfold QbR at a;simp at a;rw [j,a.1]
theorem Je.len {w:World} {a:Nat} {f:Int->Option Nat} {c:Nat} (h:Je w a f c) (b:TypeId):(Builtin.len_ #[139] b #[.map (some a)]).run Tryz.prog w=.ok (.int .i64 c) w:=by obtain ⟨D,d,g,_⟩:=h;rw [d.len Tryz.underlying139 b,g]
theorem QlB {w:World} {a n:Nat} {D:DataW Value} (h:w.ownsMap Tryz.prog 3 QbR a n D):w.ownsMap Tryz.prog 3 QbR a (Go.Maps.size D) D:=by obtain ⟨c,b,hb,F,d,rfl⟩:=h;refine ⟨c,b,hb,F,?_,rfl⟩;simp [Go.Maps.size,length_sorted]
theorem Qrl {c:Nat} {f:Int->Option Nat} {d:Nat} (w:World) {q:Array Oper} {rest:List Oper} {l:Oper} {a:Act} {t:Exit->Act->World->Prop} (n:l.guard=none) (m x v:Operand) (y:l.op=Op.mapUpdate 139 m x v) (A:a.eval m=.map (some c)) (h:Je w c f d) (B:d<maxLen) (i:Int) (b:Nat) (r:Qg i) (C:a.eval x=.int .i64 i) (E:a.eval v=Xp b) (F:f i=none) (G:∀ w',Hid (Je w' c (λj=>if j=i then some b else f j) (d+1))->Hid (w.grownBy w' (some c))->w'.heap.size=w.heap.size->wpList Tryz.prog q t rest (a.put l.dst undef) w'):wpList Tryz.prog q t (l::rest) a w:=by
 obtain ⟨D,g,H,s⟩:=h;refine wpList_mapUpdate_in w n m x v _ y 3 140 QeH Tryz.underlying139 QbR c d D A g B _ _ (.int .i64 i) C E (keyOf_int_mk Tryz.underlying3 (Qe2 r)) (.held (Xp b)) [] rfl ?_;intro w' u o;have n:=o.grown;have z:w'.heap.size=w.heap.size:=by obtain ⟨L,M,J,K,_,rfl⟩:=o;simp [Go.ChangeMaps.setBlock]
 have p:Go.Maps.size (D.put (.int .i64 i) (.held (Xp b)))=d+1:=by rw [Go.Maps.size_put (g.tidy QeH),(s i r).1,F,H];rfl
 refine G w' (Qa ⟨_,by have:=QlB u;rwa [p] at this,p,λj I=>?_⟩) (Qa n) z;simp only [];by_cases e:j=i
 ·subst e;rw [if_pos rfl,Go.Maps.has_put_same (k:=.int .i64 j) g.isMap trivial,Go.Maps.atKey_put_same (k:=.int .i64 j) g.isMap trivial];exact ⟨rfl,rfl⟩
 rw [if_neg e,Go.Maps.has_put_other (by simpa using e),Go.Maps.atKey_put_other (by simpa using e)];exact s j I
theorem Qov {b:Nat} {f:Int->Option Nat} {c:Nat} (w:World) {o:Array Oper} {rest:List Oper} {d:Oper} {a:Act} {s:Exit->Act->World->Prop} (g:d.guard=none) (m x:Operand) (u:d.op=Op.call { callee:=Callee.builtin Builtin.delete,args:=#[m,x],argTypes:=#[139,3] }) (y:a.eval m=.map (some b)) (h:Je w b f c) (i:Int) (p:Qg i) (z:a.eval x=.int .i64 i) (A:(f i).isSome=true) (B:∀ w',Hid (Je w' b (λj=>if j=i then none else f j) (c-1))->Hid (w.grownBy w' (some b))->w'.heap.size=w.heap.size->wpList Tryz.prog o s rest (a.put d.dst (.tuple #[])) w'):wpList Tryz.prog o s (d::rest) a w:=by
 obtain ⟨D,q,C,r⟩:=h;refine wpList_delete_own w g m x _ _ u 140 QeH Tryz.underlying139 QbR b c D y q _ (.int .i64 i) z (keyOf_int_mk Tryz.underlying3 (Qe2 p)) ?_;intro w' t l;have g:=l.grown;have v:w'.heap.size=w.heap.size:=by obtain ⟨H,I,F,G,_,rfl⟩:=l;simp [Go.ChangeMaps.setBlock]
 have n:Go.Maps.size (D.del (.int .i64 i))=c-1:=by have:=Go.Maps.size_del (k:=.int .i64 i) (q.tidy QeH);rw [(r i p).1,A,C] at this;simp at this;omega
 refine B w' (Qa ⟨_,by have:=QlB t;rwa [n] at this,n,λj E=>?_⟩) (Qa g) v;simp only [];by_cases e:j=i
 ·subst e;rw [if_pos rfl,Go.Maps.has_del_same,Go.Maps.atKey_del_same];exact ⟨rfl,rfl⟩
 rw [if_neg e,Go.Maps.has_del_other (by simpa using e),Go.Maps.atKey_del_other (by simpa using e)];exact r j E
theorem Qi9:∀ x:List UInt8,Op.bytesLess x x=false:=by intro x;induction x with| nil=>rfl| cons a x ih=>simp [Op.bytesLess,ih]
theorem Qfh:∀ x g z:List UInt8,Op.bytesLess x g=true->Op.bytesLess g z=true->Op.bytesLess x z=true:=by
 intro x;induction x with
 | nil =>intro g z f d;cases z with| nil=>cases g<;>simp [Op.bytesLess] at d| cons c z=>rfl
 | cons a x ih =>
  intro g z f d;cases g with
  | nil=>simp [Op.bytesLess] at f
  | cons b g =>
   cases z with
   | nil=>simp [Op.bytesLess] at d
   | cons c z =>
    simp only [Op.bytesLess,Bool.or_eq_true,decide_eq_true_eq,Bool.and_eq_true,beq_iff_eq] at f d ⊢;rcases f with f|⟨rfl,f⟩
    ·rcases d with d|⟨rfl,d⟩
     ·left;exact UInt8.lt_trans f d
     left;exact f
    rcases d with d|⟨rfl,d⟩
    ·left;exact d
    right;exact ⟨rfl,ih g z f d⟩
theorem QtF:∀ x c:List UInt8,Op.bytesLess x c=false->Op.bytesLess c x=false->x=c:=by
 intro x;induction x with
 | nil =>intro c d f;cases c with| nil=>rfl| cons b c=>simp [Op.bytesLess] at d
 | cons a x ih =>
  intro c d f;cases c with
  | nil=>simp [Op.bytesLess] at f
  | cons b c =>
   simp only [Op.bytesLess,Bool.or_eq_false_iff,decide_eq_false_iff_not,Bool.and_eq_false_iff,beq_eq_false_iff_ne] at d f;have g:a=b:=by have i:=d.1;have j:=f.1;rw [UInt8.lt_iff_toNat_lt] at i j;exact UInt8.toNat_inj.1 (by omega)
   subst g;rw [ih c (d.2.resolve_left (λh=>h rfl)) (f.2.resolve_left (λh=>h rfl))]
theorem Ql0:∀ x c:List UInt8,Lib.compareBytes x c<0↔Op.bytesLess x c=true:=by
 intro x;induction x with
 | nil=>intro c;cases c<;>simp [Lib.compareBytes,Op.bytesLess]
 | cons a x ih =>
  intro c;cases c with
  | nil=>simp [Lib.compareBytes,Op.bytesLess]
  | cons b c =>
   simp only [Lib.compareBytes,Op.bytesLess,Bool.or_eq_true,decide_eq_true_eq,Bool.and_eq_true,beq_iff_eq];by_cases d:a<b
   ·simp [d]
   by_cases f:b<a
   ·have h:a≠b:=λe=>by subst e;exact UInt8.lt_irrefl _ f
    simp [d,f,h]
   have g:a=b:=by rw [UInt8.lt_iff_toNat_lt] at d f;exact UInt8.toNat_inj.1 (by omega)
   simp [g,ih c]
theorem Qml:∀ x c:List UInt8,Lib.compareBytes x c=0↔x=c:=by
 intro x;induction x with
 | nil=>intro c;cases c<;>simp [Lib.compareBytes]
 | cons a x ih =>
  intro c;cases c with
  | nil=>simp [Lib.compareBytes]
  | cons b c =>
   simp only [Lib.compareBytes,List.cons.injEq];by_cases d:a<b
   ·have f:a≠b:=λe=>by subst e;exact UInt8.lt_irrefl _ d
    simp [d,f]
   by_cases g:b<a
   ·have f:a≠b:=λe=>by subst e;exact UInt8.lt_irrefl _ g
    simp [d,g,f]
   have h:a=b:=by rw [UInt8.lt_iff_toNat_lt] at d g;exact UInt8.toNat_inj.1 (by omega)
   simp [h,ih c]
def Q1 (a b:ByteArray):Bool:=Op.bytesLess a.toList b.toList
theorem Qfg {a b:ByteArray}:ZK a b=true↔a.toList=b.toList:=by unfold ZK;simp
def Zw (l:List (ByteArray × ByteArray)):Prop:=l.Pairwise λx a=>Q1 x.1 a.1=true
def Qs (l:List (ByteArray × ByteArray)) (nm:ByteArray):Nat:=(l.takeWhile λx=>Q1 x.1 nm).length
theorem Qdn (l:List (ByteArray × ByteArray)) (nm:ByteArray):Qs l nm<=l.length:=(takeWhile_sublist _).length_le
theorem QiA {x:ByteArray × ByteArray} {l:List (ByteArray × ByteArray)} {nm:ByteArray} (h:Q1 x.1 nm=true):Qs (x::l) nm=Qs l nm+1:=by unfold Qs;simp [h]
theorem Qim {x:ByteArray × ByteArray} {l:List (ByteArray × ByteArray)} {nm:ByteArray} (h:Q1 x.1 nm=false):Qs (x::l) nm=0:=by unfold Qs;simp [h]
theorem QbU {l:List (ByteArray × ByteArray)} {nm:ByteArray} (f:Zw l):∀ i,(b:i<l.length)->(Q1 l[i].1 nm=true↔i<Qs l nm):=by
 induction l with
 | nil=>intro i b;exact absurd b (Nat.not_lt_zero _)
 | cons x l ih =>
  intro i b;have c:=pairwise_cons.1 f;cases a:Q1 x.1 nm with
  | true =>rw [QiA a];cases i with| zero=>simp [a]| succ i=>rw [getElem_cons_succ,ih c.2 i (by simpa using b)];omega
  | false =>
   rw [Qim a];cases i with
   | zero=>simp [a]
   | succ i =>
    have d:i<l.length:=by simpa using b
    rw [getElem_cons_succ];refine ⟨λh=>?_,λh=>absurd h (Nat.not_lt_zero _)⟩;have g:=c.1 l[i] (getElem_mem d);have:=Qfh _ _ _ g h;unfold Q1 at a;rw [a] at this;cases this
theorem QqD {l:List (ByteArray × ByteArray)} {nm:ByteArray} {k:Nat} (a:Zw l) (g:k<=l.length) (b:∀ i,(c:i<l.length)->i<k->Q1 l[i].1 nm=true) (d:∀ i,(c:i<l.length)->k<=i->Q1 l[i].1 nm=false):Qs l nm=k:=by
 have j:=Qdn l nm;by_cases h:Qs l nm<k
 ·have:=(QbU a (nm:=nm) (Qs l nm) (by omega)).1 (b _ (by omega) h);omega
 by_cases f:k<Qs l nm
 ·have:=(QbU a (nm:=nm) k (by omega)).2 f;rw [d k (by omega) (Nat.le_refl _)] at this;cases this
 omega
def Zc (l:List (ByteArray × ByteArray)) (nm:ByteArray):Bool:=decide (Qs l nm<l.length)&&ZK (Qa2 l (Qs l nm)).1 nm
theorem QkE {l:List (ByteArray × ByteArray)} {nm:ByteArray} (h:Zw l):Zw (ZE l nm):=List.Pairwise.filter _ h
theorem QjU {a b c:ByteArray} (h:ZK a b=true):Q1 a c=Q1 b c:=by unfold Q1;rw [Qfg.1 h]
theorem Qjm {a b c:ByteArray} (h:ZK b c=true):Q1 a b=Q1 a c:=by unfold Q1;rw [Qfg.1 h]
theorem Qjz {a b:ByteArray} (h:ZK a b=true):Q1 a b=false:=by rw [QjU h];exact Qi9 _
theorem Qih {l:List (ByteArray × ByteArray)} {nm:ByteArray} (k:Zw l):ZE l nm=if Zc l nm then l.take (Qs l nm)++l.drop (Qs l nm+1) else l:=by
 induction l with
 | nil=>rfl
 | cons x l ih =>
  have g:=pairwise_cons.1 k;have i:Q1 x.1 nm=false->∀ b,b ∈ l->ZK b.1 nm=false:=λa b c=>by cases d:ZK b.1 nm with| false=>rfl| true =>have:=g.1 b c;rw [Qjm d,a] at this;cases this
  have h:ZE (x::l) nm=if ZK x.1 nm then ZE l nm else x::ZE l nm:=by unfold ZE;rw [filter_cons];cases ZK x.1 nm<;>rfl
  cases a:Q1 x.1 nm with
  | true =>
   have j:ZK x.1 nm=false:=by cases d:ZK x.1 nm with| false=>rfl| true=>rw [Qjz d] at a;cases a
   have f:Zc (x::l) nm=Zc l nm:=by unfold Zc;rw [QiA a];simp [Qa2]
   rw [h,j,f,QiA a,ih g.2];cases Zc l nm<;>simp
  | false =>
   have m:ZE l nm=l:=by unfold ZE;rw [filter_eq_self];intro b c;rw [i a b c];rfl
   rw [h,m];have f:Zc (x::l) nm=ZK x.1 nm:=by unfold Zc;rw [Qim a];simp [Qa2]
   rw [f,Qim a];cases ZK x.1 nm<;>simp
theorem Quo (a b:ByteArray) (w:World) : Xl 191 #[.string a,.string b] w λe w'=>e=.returned (Xi (Lib.compareBytes a.data.toList b.data.toList))/\w'=w:=by go_enter Tryz.func191,Tryz.ntmps191;go_wp2;rw [run_callFunc_extern Tryz.func200 (by kernel_rfl) (by kernel_rfl) (by kernel_rfl) (e:=Extern.BytealgCompare.compare) (by kernel_rfl),Lib.run_compareString];simp only [Result.andThen];rw [Oper.upon_value];go_wp2;go_ret;exact ⟨rfl,rfl⟩
theorem QqE (a b:ByteArray) (w:World) : Xl 177 #[.string a,.string b] w λe w'=>e=.returned (Xi (Lib.compareBytes a.data.toList b.data.toList))/\w'=w:=by go_enter Tryz.func177,Tryz.ntmps177;go_wp2_with (go_at_call 191;refine (Quo _ _ _).mono ?_;rintro e w' ⟨rfl,rfl⟩);go_ret;exact ⟨rfl,rfl⟩
def Qcg (a b:ByteArray):Int:=Lib.compareBytes a.data.toList b.data.toList
theorem QjW (a v b:ByteArray) (w:World) : Xl 176 #[.agg #[.string a,.string v],.string b] w λe w'=>e=.returned (Xi (Qcg a b))/\Xb w w':=by go_enter Tryz.func176,Tryz.ntmps176;go_wp2_with (go_at_call 177;refine (QqE _ _ _).mono ?_;rintro e w' ⟨rfl,rfl⟩);go_ret;exact ⟨rfl,Xd⟩
theorem toList_data (a:ByteArray):a.toList=a.data.toList:=by exact Lib.toList_data a
theorem Qp3 (a b:ByteArray):decide (Qcg a b<0)=Q1 a b:=by unfold Qcg Q1;rw [toList_data,toList_data];cases h:Op.bytesLess a.data.toList b.data.toList with| true=>exact decide_eq_true ((Ql0 _ _).2 h)| false=>exact decide_eq_false (λe=>by rw [(Ql0 _ _).1 e] at h;cases h)
theorem Qm5 (a b:ByteArray):decide (Qcg a b=0)=ZK a b:=by
 unfold Qcg ZK;rw [toList_data,toList_data];by_cases h:a.data.toList=b.data.toList
 ·rw [decide_eq_true ((Qml _ _).2 h),h,beq_self_eq_true]
 rw [decide_eq_false (λe=>h ((Qml _ _).1 e))];exact (beq_eq_false_iff_ne.2 h).symm
theorem Qts (ao:Option Addr) (n c:Nat) (l:List (ByteArray × ByteArray)) (nm:ByteArray) (w:World) (P:n=l.length) (a4:n<=5) (R:Zw l) (K:JW w ao n (Q4 l) (Zq l)) : Xl 175 #[.slice ao n c,.string nm,.func (.func 176) #[] #[]] w λe w'=>e=.returned (.tuple #[Xi (Qs l nm),.bool (Zc l nm)])/\Xb w w':=by
 have G:=Qa P;have v:=Qa R;have S:=Qa K;clear P R K;go_enter Tryz.func175,Tryz.ntmps175;go_wp2;go_loopw [9,10,11] (λi j _ wr=>∃ a b:Nat,i=Xi a/\j=Xi b/\a<=b/\b<=n/\Hid (∀ t,(f:t<l.length)->t<a->Q1 l[t].1 nm=true)/\Hid (∀ t,(f:t<l.length)->b<=t->Q1 l[t].1 nm=false)/\Hid (Xb w wr)) (λi j _ _=>(intOf j).toNat-(intOf i).toNat);·exact ⟨0,n,rfl,rfl,Nat.zero_le _,Nat.le_refl _,Qa (λ_ _ h=>absurd h (Nat.not_lt_zero _)),Qa (λt f h=>by have:=G.out;omega),Qa (Below.refl _ _)⟩
 case round =>
  obtain ⟨a,b,rfl,rfl,a8,V,L,M,hb⟩:=hrel;have a5:n<=l.length:=by have:=G.out;omega
  have a6:l.length<=n:=by have:=G.out;omega
  by_cases a9:a<b
  ·have k:(a+b) / 2<l.length:=by omega
   obtain ⟨g,m,D,s,x,y,_,_⟩:=S.out ((a+b) / 2) (by omega);subst D;have a0:wr.cell? (Xa g (m+(a+b) / 2*2))=some (.string l[(a+b) / 2].1):=by rw [hb.out.cell (p:=(Xa g (m+(a+b) / 2*2))) s,x];unfold Q4;rw [Xg k];rfl
   have a1:wr.cell? (Xa g (m+(a+b) / 2*2+1))=some (.string l[(a+b) / 2].2):=by rw [hb.out.cell (p:=(Xa g (m+(a+b) / 2*2+1))) s,y];unfold Zq;rw [Xg k];rfl
   have z:Hid (∀ w,Xl 176 #[.agg #[.string l[(a+b) / 2].1,.string l[(a+b) / 2].2],.string nm] w λe w'=>e=.returned (Xi (Qcg l[(a+b) / 2].1 nm))/\Xb w w'):=Qa (λw=>QjW _ _ _ w);have N:=Qp3 l[(a+b) / 2].1 nm;have O:Hid (∀ t,(f:t<l.length)->(Q1 l[(a+b) / 2].1 nm=true->t<=(a+b) / 2->Q1 l[t].1 nm=true)/\(Q1 l[(a+b) / 2].1 nm=false->(a+b) / 2<=t->Q1 l[t].1 nm=false)):=by
    refine Qa λt f=>⟨λh W=>?_,λh W=>?_⟩
    ·exact (QbU (nm:=nm) v.out t f).2 (by have:=(QbU (nm:=nm) v.out _ k).1 h;omega)
    cases a2:Q1 l[t].1 nm with| false=>rfl| true =>have:=(QbU (nm:=nm) v.out _ k).2 (by have:=(QbU (nm:=nm) v.out t f).1 a2;omega);rw [h] at this;cases this
   generalize E:l[(a+b) / 2].1=A at *;generalize F:l[(a+b) / 2].2=a3 at *;generalize H:Qcg A nm=r at *;have T:=Qa N;clear x y H N E F;by_cases J:r<0
   ·have B:Q1 A nm=true:=by rw [<- T.out];exact decide_eq_true J
    have I:=Qa B;clear B;go_wp2_with (first|(go_at_call 176;refine (Qb z _).mono ?_;rintro e w1 ⟨rfl,d⟩;have o:=Qa d;clear d));go_roundw
    ·exact ⟨(a+b) / 2+1,b,by go_num,rfl,by omega,V,Qa (λt f h=>(O.out t f).1 I.out (by omega)),M,Qa (hb.out.trans (o.out.mono hb.out.size))⟩
    simp [intOf];omega
   have B:Q1 A nm=false:=by rw [<- T.out];exact decide_eq_false J
   have I:=Qa B;clear B;go_wp2_with (first|(go_at_call 176;refine (Qb z _).mono ?_;rintro e w1 ⟨rfl,d⟩;have o:=Qa d;clear d));go_roundw;·exact ⟨a,(a+b) / 2,rfl,by go_num,by omega,by omega,L,Qa (λt f h=>(O.out t f).2 I.out h),Qa (hb.out.trans (o.out.mono hb.out.size))⟩
   simp [intOf];omega
  have X:b=a:=by omega
  subst X;have q:Hid (Qs l nm=b):=Qa (QqD v.out (by omega) L.out M.out);by_cases a7:b<n
  ·have k:b<l.length:=by omega
   obtain ⟨g,m,D,s,x,y,_,_⟩:=S.out b (by omega);subst D;have a0:wr.cell? (Xa g (m+b*2))=some (.string l[b].1):=by rw [hb.out.cell (p:=(Xa g (m+b*2))) s,x];unfold Q4;rw [Xg k];rfl
   have a1:wr.cell? (Xa g (m+b*2+1))=some (.string l[b].2):=by rw [hb.out.cell (p:=(Xa g (m+b*2+1))) s,y];unfold Zq;rw [Xg k];rfl
   have z:Hid (∀ w,Xl 176 #[.agg #[.string l[b].1,.string l[b].2],.string nm] w λe w'=>e=.returned (Xi (Qcg l[b].1 nm))/\Xb w w'):=Qa (λw=>QjW _ _ _ w);have U:Hid (Zc l nm=decide (Qcg l[b].1 nm=0)):=by refine Qa ?_;unfold Zc;rw [q.out,Qm5,decide_eq_true k,Bool.true_and,Qcr k]
   generalize E:l[b].1=A at *;generalize F:l[b].2=a3 at *;generalize H:Qcg A nm=r at *;clear x y H E F;have Y:(b:Int)<(n:Int):=by omega
   by_cases C:r=0
   ·have u:Hid (Zc l nm=true):=by rw [U.out,decide_eq_true C];exact Qa rfl
    go_wp2_with (first|(go_at_call 176;refine (Qb z _).mono ?_;rintro e w1 ⟨rfl,d⟩;have o:=Qa d;clear d));go_ret2;refine ⟨?_,hb.out.trans (o.out.mono hb.out.size)⟩;rw [q.out,u.out];first|rfl|simp [C]
   have u:Hid (Zc l nm=false):=by rw [U.out,decide_eq_false C];exact Qa rfl
   go_wp2_with (first|(go_at_call 176;refine (Qb z _).mono ?_;rintro e w1 ⟨rfl,d⟩;have o:=Qa d;clear d));go_ret2;refine ⟨?_,hb.out.trans (o.out.mono hb.out.size)⟩;rw [q.out,u.out];first|rfl|simp [C]
  have u:Hid (Zc l nm=false):=by refine Qa ?_;unfold Zc;rw [q.out,decide_eq_false (by omega)];rfl
  have Y:¬ (b:Int)<(n:Int):=by omega
  go_wp2_with fail;go_ret2;refine ⟨?_,hb.out⟩;rw [q.out,u.out];first|rfl|simp
end Go.Proofs.YtobgcaemnpkbmaaGreatDoor
