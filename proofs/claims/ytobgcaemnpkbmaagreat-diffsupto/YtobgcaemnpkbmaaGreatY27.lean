import Derived.Test.YtobgcaemnpkbmaaGreatY21
namespace Go.Proofs.YtobgcaemnpkbmaaGreat
set_option maxRecDepth 100000
set_option maxHeartbeats 8000000
open Go.RowKit List
variable {Q:Exit->Act->World->Prop} {last:Int} {R:List RN} {E xs:List Value} {B b bb g j k m n r size:Nat} {G:Nat->Nat} {S S':Nat->Prop} {L:Nat->Qd} {X:Nat->Qh} {pat:Nat->Value} {ao:Option Addr} {x:Qh} {e t:TypeId} {q1 q2 v:Value} {w w' w0 w1 w2 w3 w4 wr:World}
def QbH (R:List RN):Prop:=∀ n,n ∈ R->(n.tag.toList.isEmpty=false->n.text=⟨#[]⟩)/\Qu n.key
theorem QbH.put (b:QbH R) {n:RN} (c:(n.tag.toList.isEmpty=false->n.text=⟨#[]⟩)/\Qu n.key):QbH (R.set k n):=λm a=>by
 rcases Xb2 a with a|rfl
 ·exact b m a
 exact c
theorem Qlz {m:Qd} (a:Ze m=true \/ Zx m=true) (b:m.t.toList.isEmpty=false):m.x=⟨#[]⟩:=by
 rcases a with a|a
 ·exact (QeQ a).2
 rw [(QeP a).1] at b;cases b
theorem QbH.did (n:Qx R) (f:QbH R) (a:canP R last x=true) (y:Qu x.key):QbH (QN R x):=by
 by_cases h:(x.kind==1)=true
 ·unfold canP at a;rw [if_pos h] at a;unfold Jy at a;simp only [Bool.and_eq_true] at a;have d:=a.1.1.1.1.1;unfold ZZ at d;rw [Bool.or_eq_true] at d;unfold QN;rw [if_pos h];intro m c;rcases Xa4.1 c with c|c
  ·exact f m c
  rw [mem_singleton.1 c];exact ⟨λe=>Qlz d e,y⟩
 unfold canP at a;rw [if_neg h] at a;simp only [Bool.and_eq_true,decide_eq_true_eq] at a;obtain ⟨⟨⟨z,_⟩,_⟩,a⟩:=a;obtain ⟨k,j,A,r⟩:∃ k,∃ j:k<R.length,R[k].id=x.id/\Qk R x.id=(k:Int):=by
  rcases QaG n x.id with q|⟨_,q⟩
  ·exact q
  omega
 have s:ZI R x=R[k]:=by unfold ZI;rw [r,Int.toNat_natCast,JT j]
 have g:=f _ (Xa0 j);unfold QN;rw [if_neg h,s,r,Int.toNat_natCast];by_cases d:(x.kind==2)=true
 ·rw [if_pos d];rw [if_pos d] at a;intro m c;have l:x.bef=0 \/ ∃ i,i<R.length/\Qg R i=x.bef:=by
   by_cases t:x.bef=0
   ·exact .inl t
   right;unfold insB at a;simp [t] at a;rcases QaG n x.bef with ⟨b,l,v,_⟩|⟨_,q⟩
   ·exact ⟨b,l,by rw [QV l,v]⟩
   omega
  rcases Qdn n j l m c with c|rfl
  ·exact f m c
  exact g
 rw [if_neg d];rw [if_neg d] at a;by_cases o:(x.kind==3)=true
 ·rw [if_pos o];exact λm c=>f m (QgJ c)
 rw [if_neg o];rw [if_neg o] at a;by_cases p:(x.kind==6)=true
 ·rw [if_pos p];rw [if_pos p,s] at a;unfold Qcq at a;simp only [Bool.and_eq_true] at a;refine f.put ⟨λe=>?_,g.2⟩;have e:R[k].tag.toList.isEmpty=false:=e;rw [a.2.2] at e;cases e
 rw [if_neg p];by_cases u:(x.kind==4)=true
 ·rw [if_pos u];exact f.put g
 rw [if_neg u];exact f.put g
theorem JK.neat (g:Qw R last) (d:Zw R) (f:QbH R):∀ {k:Nat},JK R last X k->(∀ i,i<k->Qu (X i).key)->QbH (QC R last X k).1:=by intro k;induction k with| zero=>exact λ_ _=>f| succ k ih =>intro a b;have c:JK R last X k:=λj h=>a j (by omega);exact QbH.did (c.ok g d).1.ids (ih c λi l=>b i (by omega)) (a k (by omega)) (b k (by omega))
theorem Qqw (d:∀ i,i<n->QF L i=true) (b:∀ i,i<n->Qu (L i).k):QbH (Zd L n):=λm c=>by obtain ⟨i,a,rfl⟩:=Xa3 c;rw [Qbx];rw [Qbg] at a;exact ⟨λe=>Qlz (Qbf (d i a)) e,b i a⟩
def QO (pat:Nat->Value) (size m:Nat):List Value:=(List.range (m*size)).map λj=>pat (j % size)
theorem QbA (pat:Nat->Value) (size m:Nat):(QO pat size m).length=m*size:=by unfold QO;simp
theorem Qez (a:j<m*size):(QO pat size m)[j]?=some (pat (j % size)):=by unfold QO;simp [a]
theorem QoD (b:∀ r,(pat r).oneCell'=true):∀ u ∈ QO pat size m,u.oneCell'=true:=by intro u a;obtain ⟨j,_,rfl⟩:=Xa5.1 a;exact b _
def JI (pat:Nat->Value) (size:Nat) (w w':World):Prop:=∀ b j,w.cell? (Xa b j)=some (pat (j % size))->w'.cell? (Xa b j)=some (pat (j % size))
theorem JI.refl (pat:Nat->Value) (size:Nat) (w:World):JI pat size w w:=λ_ _ a=>a
theorem JI.trans {a b c:World} (d:JI pat size a b) (k:JI pat size b c):JI pat size a c:=λx j e=>k x j (d x j e)
theorem JI.grown (a:w.grownBy w' none):JI pat size w w':=λb j e => (Xk b j (a.block b (block_lt_of_cell e) (by simp))).trans e
theorem JI.alloc (pat:Nat->Value) (size:Nat) (w:World) (a:Obj):JI pat size w (w.alloc a):=JI.grown (World.grownBy_alloc w a none)
theorem Qpj {P:Program} (w:World) (t ty e:TypeId) (i:TypeInfo) (y:Value) (size R:Nat) (H:P.underlying t=some (.slice e)) (I:P.info? e=some i) (a0:i.zero=some y) (a2:i.size=size) (a6:i.bytes=R) (a7:y.cells.size=size) (pat:Nat->Value) (a3:∀ r,(pat r).oneCell'=true) (v:Value) (n:Nat) (h:List Value) (z:w.ownsRow 0 e size v n h) (a:Addr) (m c:Nat) (aa:0<m) (D:∀ j u,(QO pat size m)[j]?=some u->w.cell? (a.add j)=some u) (af:n+m<=9223372036854775807) (O:(n+m)*R<=140737488355328) : ∃ J w',(Builtin.append_ #[t,t] ty #[v,.slice (some a) m c]).run P w=.ok J w'/\w'.ownsRow 0 e size J (n+m) (h++QO pat size m)/\w'.ownsRow 0 e size v n h/\ZV w w' v J/\JI pat size w w':=by
 subst a2 a6;have a4:n+m<=maxLen:=by unfold maxLen;omega
 have o:=z.1;have f:=QbA pat i.size m;have A:(h++QO pat i.size m).length=(n+m)*i.size:=by rw [length_append,o,f,Nat.add_mul]
 have T:∀ p,p<n+m->(w.drew.alloc (.cells (h.toArray++(QO pat i.size m).toArray++Builtin.zeroCells y.cells (grownCap w (n+m) p e-(n+m))) e)).ownsRow 0 e i.size (Xe w.heap.size (n+m) (grownCap w (n+m) p e)) (n+m) (h++QO pat i.size m):=by
  intro p _;have a8:=grownCap_ge w (n+m) p e;refine ⟨A,.inr ⟨w.heap.size,_,_,rfl,X3,Xc5 w.drew _,a8,grownCap_le_maxLen w (n+m) p e a4,?_,?_⟩⟩
  ·rw [Array.size_append,Array.size_append,size_zeroCells,a7,size_toArray,size_toArray,o,f,<- Nat.add_mul,<- Nat.add_mul];congr 1
   omega
  rw [<- A,Array.toList_append,Array.toList_append];exact take_left
 have q:∀ a1:Obj,w.grownBy (w.drew.alloc a1) none:=λa1=>⟨rfl,rfl,rfl,by simp,λk K _=>heap_alloc_old w.drew _ K⟩;rcases z.2 with ⟨rfl,rfl⟩|⟨g,l,d,rfl,U,L,a9,V,F,S⟩
 ·have ab:h=[]:=eq_nil_of_length_eq_zero (by simpa using o);subst ab;have x:=run_append_nil (P:=P) w t ty e i y H I a0 a m c (QO pat i.size m) f D aa (by omega) (by have C:=O;simp only [Nat.zero_add] at C;omega);have W:=T 0 (by omega);simp only [Nat.zero_add,nil_append,Array.empty_append] at W ⊢;exact ⟨_,_,x,W,Xc0 _ _ _ _,.inr ⟨rfl,q _⟩,JI.grown (q _)⟩
 by_cases E:n+m<=l
 ·have a5:n*i.size+(QO pat i.size m).length<=d.size:=by rw [f,F,<- Nat.add_mul];exact Nat.mul_le_mul_right _ E
  have x:=run_append_room (P:=P) w t ty e i H I g n l d L a m c (QO pat i.size m) f D (QoD a3) E a5;have M:=setRow_heap w g d (d.toList.take (n*i.size)++QO pat i.size m++d.toList.drop (n*i.size+(QO pat i.size m).length)).toArray e (0,0) L;have G:d.toList.length=d.size:=Array.length_toList;have X:(d.toList.take (n*i.size)++QO pat i.size m++d.toList.drop (n*i.size+(QO pat i.size m).length)).length=d.size:=by simp only [length_append,length_take,length_drop,G];omega
  refine ⟨_,_,x,⟨A,.inr ⟨g,l,_,rfl,U,M,E,V,by rw [size_toArray,X];exact F,?_⟩⟩,⟨o,.inr ⟨g,l,_,rfl,U,M,a9,V,by rw [size_toArray,X];exact F,?_⟩⟩,.inl ⟨rfl,⟨rfl,rfl,rfl,by simp,λk _ K=>setRow_other w g k _ (λe=>K (by simp [Value.ownBlock,e]))⟩,by simp⟩,?_⟩
  ·rw [S,<- A];exact take_left
  ·rw [S,append_assoc,<- o];exact take_left
  intro b j s;by_cases C:b=g
  ·subst C;rw [cell_of_row w b j d e (0,0) L] at s;rw [cell_of_row _ b j _ e (0,0) M];have ag:j<d.size:=by
    rcases Nat.lt_or_ge j d.size with N|N
    ·exact N
    rw [Array.getElem?_eq_none N] at s;cases s
   rw [getElem?_toArray];have Y:d.toList[j]?=some (pat (j % i.size)):=by simpa using s
   by_cases ac:j<n*i.size
   ·rw [append_assoc,getElem?_append_left (by simp only [length_take,G];omega),getElem?_take,if_pos ac];exact Y
   have B:(d.toList.take (n*i.size)).length=n*i.size:=by simp only [length_take,G];omega
   by_cases ad:j<n*i.size+m*i.size
   ·rw [getElem?_append_left (by rw [length_append,B,f];exact ad),getElem?_append_right (by omega),B,Qez (by omega)];congr 2
    have ae:j=(j-n*i.size)+n*i.size:=by omega
    conv=>rhs;rw [ae]
    rw [Nat.add_mul_mod_self_right]
   rw [getElem?_append_right (by rw [length_append,B,f];omega),length_append,B,getElem?_drop,f];rw [show n*i.size+m*i.size+(j-(n*i.size+m*i.size))=j by omega];exact Y
  exact (Xk b j (setRow_other w g b _ C)).trans s
 have x:=run_append_grow (P:=P) w t ty e i y H I a0 (Xa g 0) n l h o (z.cells (g:=g) rfl) a m c (QO pat i.size m) f D (by omega) (by omega) (growslice_fits (by omega) O);exact ⟨_,_,x,T l (by omega),z.kept (q _) (by cases ah:Value.ownBlock (Xe g n l)<;>simp),.inr ⟨rfl,q _⟩,JI.grown (q _)⟩
theorem Qb7 {P:Program} (w:World) {o:Array Oper} {l:List Oper} {d:Oper} {a:Act} (B:d.guard=none) (s x:Operand) (t:TypeId) (F:d.op=.call { callee:=.builtin .append,args:=#[s,x],argTypes:=#[t,t] }) (e:TypeId) (i:TypeInfo) (k:Value) (size g:Nat) (G:P.underlying t=some (.slice e)) (H:P.info? e=some i) (I:i.zero=some k) (q:i.size=size) (C:i.bytes=g) (D:k.cells.size=size) (pat:Nat->Value) (z:∀ r,(pat r).oneCell'=true) (v:Value) (n:Nat) (f:List Value) (J:a.eval s=v) (A:w.ownsRow 0 e size v n f) (h:Addr) (m c:Nat) (L:a.eval x=.slice (some h) m c) (M:0<m) (y:∀ j u,(QO pat size m)[j]?=some u->w.cell? (h.add j)=some u) (E:n+m<=9223372036854775807) (p:(n+m)*g<=140737488355328) (V:∀ b w',Hid (w'.ownsRow 0 e size b (n+m) (f++QO pat size m))->Hid (w'.ownsRow 0 e size v n f)->Hid (ZV w w' v b)->Hid (JI pat size w w')->wpList P o Q l (a.put d.dst b) w'):wpList P o Q (d::l) a w:=by refine wpList_plain B λK N=>?_;obtain ⟨b,w',O,R,S,T,U⟩:=Qpj (P:=P) w t d.type e i k size g G H I q C D pat z v n f A h m c M y E p;unfold Oper.wp execOp;simp only [F,resolve,invoke,builtin,Sem.run_bind,Sem.run_pure,Result.andThen_ok,map_toArray,map_cons,map_nil,J,L,O];exact N _ _ (V b w' (Qa R) (Qa S) (Qa T) (Qa U))
def Jk (S:Nat->Prop) (pat:Nat->Value) (size:Nat) (w:World) (v:Value):Prop :=
 ∃ ao n c,v=.slice ao n c/\n<=1099511627776/\(∀ a,ao=some a->S a.block/\a.block<w.heap.size)/\∀ j,j<n*size->∃ b,ao=some (Xa b 0)/\w.cell? (Xa b j)=some (pat (j % size))
theorem Jk.keeps (p:Jk S pat size w v) (f:JI pat size w w') (g:w.heap.size<=w'.heap.size) (h:∀ b,b<w.heap.size->S b->S' b):Jk S' pat size w' v:=by obtain ⟨ao,n,c,e,i,a,k⟩:=p;refine ⟨ao,n,c,e,i,λd e=>⟨h _ (a d e).2 (a d e).1,Xb4 (a d e).2 g⟩,λj l=>?_⟩;obtain ⟨b,m,o⟩:=k j l;exact ⟨b,m,f b j o⟩
theorem Qdm (c:w.ownsRow 0 e size v n (QO pat size n)) (f:n<=1099511627776) (h:∀ b,v.ownBlock=some b->S b):Jk S pat size w v:=by
 rcases c.2 with ⟨rfl,rfl⟩|⟨g,d,k,rfl,_,l,_⟩
 ·exact ⟨none,0,0,rfl,by omega,λi e=>(nomatch e),λj a=>by simp at a⟩
 refine ⟨some (Xa g 0),n,d,rfl,f,λi e=>?_,λj a=>⟨g,rfl,?_⟩⟩
 ·cases e;exact ⟨h g rfl,(c.lt g rfl).2⟩
 rw [c.cellAt j a,Qez a]
theorem QcY (pat:Nat->Value) (size n m:Nat):QO pat size n++QO pat size m=QO pat size (n+m):=by
 apply ext_getElem?;intro j;by_cases b:j<n*size
 ·rw [getElem?_append_left (by rw [QbA];exact b),Qez b,Qez (by rw [Nat.add_mul];omega)]
 rw [getElem?_append_right (by rw [QbA];omega),QbA];by_cases a:j<(n+m)*size
 ·rw [Nat.add_mul] at a;rw [Qez (by omega),Qez (by rw [Nat.add_mul];exact a)];congr 2
  have c:j=(j-n*size)+n*size:=by omega
  conv=>rhs;rw [c]
  rw [Nat.add_mul_mod_self_right]
 rw [Nat.add_mul] at a;rw [getElem?_eq_none (by rw [QbA];omega),getElem?_eq_none (by rw [QbA,Nat.add_mul];omega)]
def QaV (ao:Option Addr) (g:Nat):Option Addr:=if ao=none then none else some (Xa g 0)
def Qbo (ao:Option Addr) (n:Nat):Nat:=if ao=none then 0 else n
def Qby (ao:Option Addr) (n:Nat):Nat:=if ao=none then 0 else n+3
theorem Qtk:(Tryz.prog.info? 33).map (λi=>(i.zero,i.size,i.bytes))=some (some (.agg #[Xi 0,Xo,Xi 0,Xv,Xo]),5,72):=by kernel_rfl
theorem Qs1:(Tryz.prog.info? 33).map (·.size)=some 5:=by kernel_rfl
def Qcw (m:Qd):Nat->Value
 | 0=>Xi m.d
 | 1=>.string m.t
 | 2=>Xi m.k
 | 3=>.slice m.ao m.an m.ac
 | _=>.string m.x
def Jv (M:Nat->Qd) (j:Nat):Value:=Qcw (M (j / 5)) (j % 5)
theorem Qel (M:Nat->Qd) (i r:Nat) (c:r<5):Jv M (i*5+r)=Qcw (M i) r:=by
 unfold Jv;have a:(i*5+r) / 5=i:=by omega
 have b:(i*5+r) % 5=r:=by omega
 rw [a,b]
theorem Qqq (m:Qd) (j:Nat):(Qcw m j).oneCell'=true:=by unfold Qcw;split<;>rfl
theorem QkT (j:Nat):∃ i r,r<5/\j=i*5+r:=⟨j / 5,j % 5,by omega,by omega⟩
theorem QvB {M a:Nat->Qd} (b:M (j / 5)=a (j / 5)):Jv M j=Jv a j:=by unfold Jv;rw [b]
def Qbu (m:Qd) (g:Nat):Qd:={ m with ao:=if m.ao=none then none else some (Xa g 0),ac:=if m.ao=none then 0 else m.an+3 }
def Qef:Qd:=⟨0,Qig,0,none,0,0,⟨#[]⟩,λ_=>⟨#[]⟩,λ_=>⟨#[]⟩⟩
def ZA (L:Nat->Qd) (G:Nat->Nat) (n:Nat) (i:Nat):Qd:=if i<n then Qbu (L i) (G i) else Qef
structure Js (w:World) (L:Nat->Qd) (G:Nat->Nat) (g k:Nat):Prop where
 row:∀ i,i<k->(L i).ao≠none->w.rowIs (G i) 72 (((L i).an+3)*2) (QaC (L i).an (L i).nm (L i).vl)
 above:∀ i,i<k->(L i).ao≠none->g<G i
 rise:∀ i j,i<j->j<k->(L i).ao≠none->(L j).ao≠none->G i<G j
theorem Qdb {f:Nat->Value} (d:w.rowIs b t n f) (a:Below B w w') (c:b<B):w'.rowIs b t n f:=d.of_block (a.block b c)
theorem Js.zero (w:World) (L:Nat->Qd) (G:Nat->Nat) (g:Nat):Js w L G g 0 := ⟨λ_ a=>absurd a (Xb7 _),λ_ a=>absurd a (Xb7 _),λ_ _ _ a=>absurd a (Xb7 _)⟩
theorem Js.below (a:Js w L G g k) (d:Xb w w'):Js w' L G g k := ⟨λi b c=>Qdb (a.row i b c) d (a.row i b c).lt,a.above,a.rise⟩
theorem Js.setCell {w:World} {L:Nat->Qd} {G:Nat->Nat} {g k:Nat} (a:Js w L G g k) (j:Nat) (v:Value):Js (w.setCell (Xa g j) v) L G g k := ⟨λi b c=>(a.row i b c).setOther (by have:=a.above i b c;show G i≠g;omega) v,a.above,a.rise⟩
theorem Js.skip (c:Js w L G g k) (b:(L k).ao=none):Js w L G g (k+1) := ⟨λi h a=>c.row i (by by_cases e:i=k;subst e;exact absurd b a;omega) a,λi h a=>c.above i (by by_cases e:i=k;subst e;exact absurd b a;omega) a, λi j f l a d=>c.rise i j f (by by_cases e:j=k;subst e;exact absurd b d;omega) a d⟩
theorem Js.more (b:Js w L G g k) (d:g<w.heap.size) (f:Xb w w') (h:w'.rowIs w.heap.size 72 (((L k).an+3)*2) (QaC (L k).an (L k).nm (L k).vl)):Js w' L (λi=>if i=k then w.heap.size else G i) g (k+1):=by
 refine ⟨λi l a=>?_,λi l a=>?_,λi j c o a m=>?_⟩
 ·by_cases e:i=k
  ·subst e;simp only [if_true];exact h
  simp only [e,if_false];exact (b.below f).row i (by omega) a
 ·by_cases e:i=k
  ·subst e;simp only [if_true];exact d
  simp only [e,if_false];exact b.above i (by omega) a
 have n:i≠k:=by omega
 simp only [n,if_false];by_cases e:j=k
 ·subst e;simp only [if_true];exact (b.row i (by omega) a).lt
 simp only [e,if_false];exact b.rise i j c (by omega) a m
def QbO (L:Nat->Qd) (G:Nat->Nat) (k:Nat) (i:Nat):Qd:=if i<k then Qbu (L i) (G i) else L i
theorem QkE {m:Qd} (b:m.ao=none) (a:m.an=0):Qbu m g={ m with ao:=none,an:=0,ac:=0 }:=by unfold Qbu;simp [b,a]
theorem Qid {m:Qd} (a:m.ao≠none):Qbu m g={ m with ao:=some (Xa g 0),ac:=m.an+3 }:=by unfold Qbu;simp [a]
theorem Qli {G':Nat->Nat} (f:∀ i,i<k->(L i).ao≠none->G i=G' i) (v:Value) (g:v=Qcw (Qbu (L k) (G' k)) 3) (j:Nat) :
  (if j=k*5+3 then v else Jv (QbO L G k) j)=Jv (QbO L G' (k+1)) j:=by
 obtain ⟨i,r,a,e⟩:=QkT j
 subst e
 rw [Qel _ _ _ a,Qel _ _ _ a]
 by_cases h:i*5+r=k*5+3
 ·have l:i=k:=by omega
  have m:r=3:=by omega
  subst l m
  rw [if_pos rfl,g]
  unfold QbO
  rw [if_pos (by omega)]
 ·rw [if_neg h]
  by_cases b:i<k
  ·have:QbO L G k i=QbO L G' (k+1) i:=by
    unfold QbO
    rw [if_pos b,if_pos (by omega)]
    by_cases c:(L i).ao=none
    ·unfold Qbu;simp [c]
    ·rw [f i b c]
   rw [this]
  ·by_cases n:i=k
   ·subst n
    have d:r≠3:=by omega
    unfold QbO Qbu
    rw [if_neg (by omega),if_pos (by omega)]
    match r,a,d with
    | 0,_,_=>rfl
    | 1,_,_=>rfl
    | 2,_,_=>rfl
    | 4,_,_=>rfl
   ·have:QbO L G k i=QbO L G' (k+1) i:=by
     unfold QbO
     rw [if_neg b,if_neg (by omega)]
    rw [this]
structure In (L:Nat->Qd) (n:Nat):Prop where
 nil:∀ i,i<n->(L i).ao=none->(L i).an=0
 few:∀ i,i<n->(L i).an*32<=140737488351232
theorem Qwd (a:Jp w ao n L) (f:0<n):∃ c,ao=some c/\∀ j,j<n*5->w.cell? (c.add j)=some (Jv L j):=by
 obtain ⟨b,o,e,a⟩:=a f
 refine ⟨(Xa b o),e,λj p=>?_⟩
 rw [QdH]
 obtain ⟨i,r,d,e⟩:=QkT j
 subst e
 rw [Qel _ _ _ d]
 obtain ⟨g,h,k,l,m,_⟩:=a.node i (by omega)
 match r,d with
 | 0,_=>exact g
 | 1,_=>exact h
 | 2,_=>exact k
 | 3,_=>exact l
 | 4,_=>exact m
theorem Qp5 {α:Type} (p:Prop) [Decidable p] (a b c:α):(if p then a else if p then b else c)=if p then a else c:=by
 by_cases d:p
 ·rw [if_pos d,if_pos d]
 rw [if_neg d,if_neg d,if_neg d]
theorem Qqc {f:Nat->Value} (j:Nat):(if j<n*5 then Jv (QbO L G n) j else f j)=if j<n*5 then Jv (ZA L G n) j else f j:=by
 by_cases a:j<n*5
 ·rw [if_pos a,if_pos a];refine QvB ?_;unfold QbO ZA;rw [if_pos (by omega),if_pos (by omega)]
 rw [if_neg a,if_neg a]
theorem Qfo (b:k<=m) (a:r<5):Jv (ZA L G k) (m*5+r)=Qcw Qef r:=by rw [Qel _ _ _ a];unfold ZA;rw [if_neg (by omega)]
theorem QsS {f:Nat->Value} (a:k<=m) (j:Nat) : (if j=m*5+4 then Xo else if j=m*5+3 then Xv else if j=m*5+2 then Xi 0 else if j=m*5+1 then .string ⟨#[115,112,97,114,101]⟩ else if j=m*5 then Xi 0 else if j<m*5 then Jv (ZA L G k) j else f j) = if j<(m+1)*5 then Jv (ZA L G k) j else f j:=by
 by_cases b:j=m*5+4
 ·rw [if_pos b,if_pos (by omega),b,Qfo a (by omega)];rfl
 rw [if_neg b];by_cases c:j=m*5+3
 ·rw [if_pos c,if_pos (by omega),c,Qfo a (by omega)];rfl
 rw [if_neg c];by_cases d:j=m*5+2
 ·rw [if_pos d,if_pos (by omega),d,Qfo a (by omega)];rfl
 rw [if_neg d];by_cases g:j=m*5+1
 ·rw [if_pos g,if_pos (by omega),g,Qfo a (by omega)];rfl
 rw [if_neg g];by_cases h:j=m*5
 ·rw [if_pos h,if_pos (by omega),h];exact (Qfo (r:=0) a (by omega)).symm
 rw [if_neg h];by_cases i:j<m*5
 ·rw [if_pos i,if_pos (by omega)]
 rw [if_neg i,if_neg (by omega)]
theorem QnO {f g b:Nat->Value} (c:k<n) (e:∀ j,(if j=k*5+3 then v else g j)=b j) (j:Nat) : (if j=k*5+3 then v else if j<n*5 then g j else f j)=if j<n*5 then b j else f j:=by
 rw [<- e j];by_cases a:j=k*5+3
 ·rw [if_pos a,if_pos (by omega),if_pos a]
 rw [if_neg a,if_neg a]
theorem Qhs ao (n c:Nat) L w (az:n*72<=140737488351232) (a1:Jp w ao n L) (N:In L n) : Xl 9 #[.slice ao n c] w λe w'=>e=.returned (Xe w.heap.size (n+3) (n+3))/\Xb w w' /\ ∃ G,w'.rowIs w.heap.size 33 ((n+3)*5) (Jv (ZA L G n))/\Js w' L G w.heap.size n:=by
 obtain ⟨ag,ah,a5,a6,a7⟩:=info_parts Qtk;have a2:=Qa a1;have W:=Qa N;clear a1 N;have al:∀ w a l c,(binOp .neq 31 (.slice a l c) Xv).run Tryz.prog w=.ok (.bool a.isSome) w:=λw a l c=>by have:=run_neq_slice_nil_any (P:=Tryz.prog) w 31 72 a l c 0 0 Tryz.underlying31;simpa using this
 go_enter Tryz.func9,Tryz.ntmps9;go_wp2_with (first|(refine Qfj rfl (.tmp 8) (.tmp 8) 24 rfl 33 ag _ 5 72 Tryz.underlying24 ah a5 a6 a7 .i64 .i64 _ (n+3) rfl rfl (by omega) (by omega) (by omega) ?_;intro w1 r O a8 D)|(refine QiF rfl (.tmp 10) (.tmp 11) 24 24 rfl 33 Tryz.underlying24 5 Qs1 w.heap.size (n+3) (n+3) ao n c rfl rfl (by omega) 33 ((n+3)*5) r (Qb O) (Jv L) (Qwd ((Qb a2).below D)) (by omega) (λj _=>Qqq _ _) w.heap.size w D X0 ?_;intro w2 R a9 S));go_loopw [4] (λi wr=>∃ (k:Nat) (G:Nat->Nat),k<=n/\i=Xi k/\Hid (wr.rowIs w.heap.size 33 ((n+3)*5) (λj=>if j<n*5 then Jv (QbO L G k) j else r j))/\Hid (Js wr L G w.heap.size k)/\Xb w wr) (λi _=>n-(intOf i).toNat);·exact ⟨0,λ_=>0,X3,rfl,R,Qa (Js.zero _ _ _ _),S⟩
 case round =>
  obtain ⟨k,G,aA,rfl,d,q,o⟩:=hrel;clear O R D S a8 a9;by_cases t:k<n
  ·obtain ⟨b,M,rfl,H⟩:=a2.out (by omega);have E:=H.lt;have s:=H.node k t;clear H;have I:=(Xh o b (M+k*5+3) E).trans s.c3;obtain ⟨u0,y⟩:∃ u,wr.cell? (Xa w.heap.size (k*5+3))=some u:=⟨_,d.out.cell (by omega)⟩;have B:=d.out.frozen (k*5+3);have ak:b≠w.heap.size:=by omega
   cases g:(L k).ao with
   | none =>
    rw [g] at I;have ai:=W.out.nil k t g;have J:=Qa ((d.out.set (k*5+3) Xv).congr λj _=>QnO (n:=n) (f:=r) t (Qli (L:=L) (G:=G) (G':=G) (λ_ _ _=>rfl) Xv (by rw [QkE g ai];rfl)) j);have K:=Qa ((q.out.setCell (k*5+3) Xv).skip g);clear d q;go_wp2;go_roundw;·exact ⟨k+1,G,by omega,by go_num,J,K,o.setCell X0 _⟩
    simp [intOf];omega
   | some X =>
    rw [g] at I;have aa:(L k).ao≠none:=by rw [g];simp
    have T:=Qa (s.ok.at'.below o);rw [g] at T;have a3:=W.out.few k t;have F:=d.out.set (k*5+3) Xv;have U:=q.out.setCell (k*5+3) Xv;have v:=o.setCell (p:=(Xa w.heap.size (k*5+3))) X0 Xv;have ab:=Qa (show Zn (wr.setCell (Xa w.heap.size (k*5+3)) Xv) (some X) (L k).an (L k).nm (L k).vl by rw [<- g];exact s.ok.at'.below v);have Y:=(Xh v b (M+k*5+3) E).trans s.c3;rw [g] at Y;have C:=Qa F;have a0:=Qa U;have z:=F.lt;clear F U d q T s;go_wp2;generalize wr.setCell (Xa w.heap.size (k*5+3)) Xv=h at *;clear I y B;obtain ⟨u0,y⟩:∃ u,h.cell? (Xa w.heap.size (k*5+3))=some u:=⟨_,C.out.cell (by omega)⟩;have B:=C.out.frozen (k*5+3);have a4:b<h.heap.size:=Xb4 E v.size;go_region_with ((go_at_call 21;refine (QkU (some X) (L k).an (L k).ac (L k).nm (L k).vl _ a3 ((Qb ab).below X4.drew)).mono ?_;rintro e aB ⟨rfl,x,V⟩;have aC:=(Xh x b (M+k*5+3) a4).trans Y;have u5:=(Xh x w.heap.size (k*5+3) z).trans y;have aD:=(Xj x w.heap.size (k*5+3) z).trans B));all_goals
     have A:=(Below.refl h.heap.size h).drew.trans x;have J:=Qa ((((Qdb C.out A z).set (k*5+3) (Xe h.heap.size (L k).an ((L k).an+3)))).congr λj _=>(Qp5 _ _ _ _).trans (QnO (n:=n) (f:=r) t (Qli (L:=L) (G:=G) (G':=λi=>if i=k then h.heap.size else G i) (λi ap _=>by simp only [show i≠k by omega,if_false]) (Xe h.heap.size (L k).an ((L k).an+3)) (by simp only [if_true];rw [Qid aa];rfl)) j));have K:=Qa ((a0.out.more z A V).setCell (k*5+3) (Xe h.heap.size (L k).an ((L k).an+3)));have aj:=Qa ((v.trans (A.mono v.size)).setCell (p:=(Xa w.heap.size (k*5+3))) X0 (Xe h.heap.size (L k).an ((L k).an+3)));clear C a0 A x V;go_wp2;go_roundw;·exact ⟨k+1,_,by omega,by go_num,J,K,aj.out⟩
     simp [intOf];omega
  have ad:k=n:=by omega
  subst ad;have ae:=Qa ((d.out).congr (λj _=>Qqc (f:=r) j));clear d;go_wp2;go_loopw [5] (λi wr=>∃ m:Nat,k<=m/\m<=k+3/\i=Xi m/\Hid (wr.rowIs w.heap.size 33 ((k+3)*5) (λj=>if j<m*5 then Jv (ZA L G k) j else r j))/\Hid (Js wr L G w.heap.size k)/\Xb w wr) (λi _=>k+3-(intOf i).toNat);·exact ⟨k,X0,by omega,rfl,ae,q,o⟩
  case round =>
   obtain ⟨m,af,aq,rfl,d,q,o⟩:=hrel;by_cases ar:m<k+3
   ·obtain ⟨u0,y⟩:∃ u,wr.cell? (Xa w.heap.size (m*5))=some u:=⟨_,d.out.cell (by omega)⟩;obtain ⟨u1,au⟩:∃ u,wr.cell? (Xa w.heap.size (m*5+1))=some u:=⟨_,d.out.cell (by omega)⟩;obtain ⟨u2,av⟩:∃ u,wr.cell? (Xa w.heap.size (m*5+2))=some u:=⟨_,d.out.cell (by omega)⟩;obtain ⟨u3,aw⟩:∃ u,wr.cell? (Xa w.heap.size (m*5+3))=some u:=⟨_,d.out.cell (by omega)⟩;obtain ⟨u4,ax⟩:∃ u,wr.cell? (Xa w.heap.size (m*5+4))=some u:=⟨_,d.out.cell (by omega)⟩;have B:=d.out.frozen (m*5);have ay:=d.out.frozen (m*5+1);have aE:=d.out.frozen (m*5+2);have aF:=d.out.frozen (m*5+3);have aG:=d.out.frozen (m*5+4);go_wp2;go_roundw;·exact ⟨m+1,by omega,by omega,by go_num,Qa ((((((d.out.set _ _).set _ _).set _ _).set _ _).set _ _).congr λj _=>QsS af j),Qa (((((q.out.setCell _ _).setCell _ _).setCell _ _).setCell _ _).setCell _ _),((((o.setCell X0 _).setCell X0 _).setCell X0 _).setCell X0 _).setCell X0 _⟩
    simp [intOf];omega
   go_wp2;go_ret;refine ⟨rfl,o,G,d.out.congr λj aH=>?_,q.out⟩;rw [if_pos (by omega)]
def Qeu (L:Nat->Qd) (G:Nat->Nat) (g n:Nat):Nat->Prop:=λb=>b=g \/ ∃ i,i<n/\(L i).ao≠none/\b=G i
structure Wh (M W w:World) (g:Nat) (L:Nat->Qd) (G:Nat->Nat) (n kr ka:Nat):Prop where
 row:∃ f,w.rowIs g 33 ((n+3)*5) f/\∀ j,kr*5<=j->f j=Jv (ZA L G n) j
 rows:∀ i,ka<=i->i<n->(L i).ao≠none->w.rowIs (G i) 72 (((L i).an+3)*2) (QaC (L i).an (L i).nm (L i).vl)
 below:Below g W w
 far:Qi (Qeu L G g n) M w
structure Gs (L:Nat->Qd) (G:Nat->Nat) (g n:Nat):Prop where
 above:∀ i,i<n->(L i).ao≠none->g<G i
 rise:∀ i j,i<j->j<n->(L i).ao≠none->(L j).ao≠none->G i<G j
section
variable {M W w w' : World} {g : Nat} {L : Nat → Qd} {G : Nat → Nat} {n kr ka : Nat}
theorem Wh.lt (b:Wh M W w g L G n kr ka):g<w.heap.size:=by obtain ⟨f,a,_⟩:=b.row;exact a.lt
theorem Wh.grow (a:Wh M W w g L G n kr ka) (b:Xb w w'):Wh M W w' g L G n kr ka:=by obtain ⟨f,c,k⟩:=a.row;exact ⟨⟨f,Qdb c b c.lt,k⟩,λi d h j=>Qdb (a.rows i d h j) b (a.rows i d h j).lt,a.below.trans (b.mono (Xc7 c.lt)),a.far.trans (Qi.of_below b)⟩
theorem Wh.cell (d:Wh M W w g L G n kr ka) {i r:Nat} (h:kr<=i) (j:i<n+3) (a:r<5):w.cell? (Xa g (i*5+r))=some (Qcw (ZA L G n i) r):=by obtain ⟨f,b,c⟩:=d.row;rw [b.cell (by omega),c _ (by omega),Qel _ _ _ a]
theorem Wh.frozen (b:Wh M W w g L G n kr ka) (j:Nat):w.frozen? (Xa g j)=false:=by obtain ⟨f,a,_⟩:=b.row;exact a.frozen j
theorem Wh.set (a:Wh M W w g L G n (kr+1) ka) (h:Gs L G g n) {j:Nat} (o:j<(kr+1)*5) (v:Value):Wh M W (w.setCell (Xa g j) v) g L G n (kr+1) ka:=by obtain ⟨f,k,d⟩:=a.row;refine ⟨⟨_,k.set j v,λi l=>?_⟩,λi m b c=>(a.rows i m b c).setOther (by have:=h.above i b c;show G i≠g;omega) v,a.below.setCell X0 v,a.far.set (.inl (.inl rfl)) v⟩;rw [if_neg (by omega)];exact d i l
theorem Wh.next (a:Wh M W w g L G n kr ka):Wh M W w g L G n (kr+1) ka:=by obtain ⟨f,c,b⟩:=a.row;exact ⟨⟨f,c,λj d=>b j (by omega)⟩,a.rows,a.below,a.far⟩
theorem Wh.pass (a:Wh M W w g L G n kr ka):Wh M W w g L G n kr (ka+1) := ⟨a.row,λi d b c=>a.rows i (by omega) b c,a.below,a.far⟩
theorem Wh.over (f:Wh M W w g L G n kr ka) (a:Gs L G g n) (v0 b c d v4:Value) : Wh M W (((((w.setCell (Xa g (kr*5)) v0).setCell (Xa g (kr*5+1)) b).setCell (Xa g (kr*5+2)) c).setCell (Xa g (kr*5+3)) d).setCell (Xa g (kr*5+4)) v4) g L G n (kr+1) ka := ((((f.next.set a (by omega) v0).set a (by omega) b).set a (by omega) c).set a (by omega) d).set a (by omega) v4
theorem Wh.alloc (b:Wh M W w g L G n kr ka) (a:Obj):Wh M W (w.alloc a) g L G n kr ka:=b.grow (X4.alloc X0 a)
end
structure Inn (M W w:World) (g:Nat) (L:Nat->Qd) (G:Nat->Nat) (n k b m:Nat):Prop where
 own:∃ f,w.rowIs (G k) 72 (((L k).an+3)*2) f/\∀ j,m*2<=j->f j=QaC (L k).an (L k).nm (L k).vl j
 other:w.rowIs b 72 (((L k).an+3)*2) (QaC (L k).an (L k).nm (L k).vl)
 rest:Wh M W w g L G n k (k+1)
 apart:b≠G k
section
variable {M W w w' : World} {g : Nat} {L : Nat → Qd} {G : Nat → Nat} {n k b m : Nat}
theorem Inn.grow (a:Inn M W w g L G n k b m) (c:Xb w w'):Inn M W w' g L G n k b m:=by obtain ⟨f,d,h⟩:=a.own;exact ⟨⟨f,Qdb d c d.lt,h⟩,Qdb a.other c a.other.lt,a.rest.grow c,a.apart⟩
theorem Inn.start (c:Wh M W w g L G n k k) (d:k<n) (f:(L k).ao≠none) (b:Xb w w') (h:w'.rowIs w.heap.size 72 (((L k).an+3)*2) (QaC (L k).an (L k).nm (L k).vl)):Inn M W w' g L G n k w.heap.size 0:=by have a:=c.rows k X0 d f;exact ⟨⟨_,Qdb a b a.lt,λ_ _=>rfl⟩,h,c.pass.grow b,by have:=a.lt;omega⟩
theorem Qu9 (an:Nat) (nm vl:Nat->ByteArray) (j:Nat):∃ s,QaC an nm vl j=.string s:=by
 unfold QaC QbS;split
 ·exact ⟨_,rfl⟩
 exact ⟨_,rfl⟩
theorem Inn.cells (d:Inn M W w g L G n k b m) (h:m*2<=j) (a:j<((L k).an+3)*2):∃ s,w.cell? (Xa (G k) j)=some (.string s)/\w.cell? (Xa b j)=some (.string s):=by obtain ⟨s,c⟩:=Qu9 (L k).an (L k).nm (L k).vl j;obtain ⟨f,i,l⟩:=d.own;exact ⟨s,by rw [i.cell a,l j h,c],by rw [d.other.cell a,c]⟩
theorem Inn.frozen (c:Inn M W w g L G n k b m) (j:Nat):w.frozen? (Xa (G k) j)=false:=by obtain ⟨f,a,_⟩:=c.own;exact a.frozen j
theorem Wh.away (a:Wh M W w g L G n k (k+1)) (c:Gs L G g n) (d:k<n) (b:(L k).ao≠none) (j:Nat) (v:Value):Wh M W (w.setCell (Xa (G k) j) v) g L G n k (k+1):=by obtain ⟨f,o,m⟩:=a.row;have q:=c.above k d b;exact ⟨⟨f,o.setOther (by show g≠G k;omega) v,m⟩,λi p h l=>(a.rows i p h l).setOther (by have:=c.rise k i (by omega) h b l;show G i≠G k;omega) v, a.below.setCell (by show g<=G k;omega) v,a.far.set (.inl (.inr ⟨k,d,b,rfl⟩)) v⟩
theorem Inn.step (a:Inn M W w g L G n k b m) (d:Gs L G g n) (h:k<n) (i:(L k).ao≠none) (v0 c:Value):Inn M W ((w.setCell (Xa (G k) (m*2)) v0).setCell (Xa (G k) (m*2+1)) c) g L G n k b (m+1):=by obtain ⟨f,l,o⟩:=a.own;refine ⟨⟨_,(l.set (m*2) v0).set (m*2+1) c,λj p=>?_⟩,(a.other.setOther a.apart v0).setOther a.apart c,(a.rest.away d h i _ _).away d h i _ _,a.apart⟩;rw [if_neg (by omega),if_neg (by omega)];exact o j (by omega)
end
theorem QgZ g ao (n c:Nat) L (G:Nat->Nat) (w:World) (_hn:n*72<=140737488351232) (a4:Jp g ao n L) (T:In L n) (X:Gs L G g.heap.size n) (Y:Wh w g w g.heap.size L G n 0 0) : Xl 12 #[Xe g.heap.size (n+3) (n+3),.slice ao n c] w λe w'=>e=.returned (.bool true)/\Xb g w'/\Qi (Qeu L G g.heap.size n) w w':=by
 have af:=Qa a4;have a0:=Qa T;have a1:=Qa Y;have J:=Qa X;clear a4 T Y X;have ag:∀ w a l c,(binOp .neq 31 (.slice a l c) Xv).run Tryz.prog w=.ok (.bool a.isSome) w:=λw a l c=>by have:=run_neq_slice_nil_any (P:=Tryz.prog) w 31 72 a l c 0 0 Tryz.underlying31;simpa using this
 have ah:∀ w a l c,(binOp .eql 31 (.slice a l c) Xv).run Tryz.prog w=.ok (.bool a.isNone) w:=λw a l c => Lib.run_eql_slice_nil (P:=Tryz.prog) w 31 72 a l c 0 0 Tryz.underlying31;go_enter Tryz.func12,Tryz.ntmps12;go_wp2;go_loopw [5,6,7,8,9,10,11] (λM i _ _ _ _ _ wr=>∃ k:Nat,k<=n+3/\i=Xi k/\M=.bool true/\Hid (Wh w g wr g.heap.size L G n k k)) (λ_ i _ _ _ _ _ _=>n+3-(intOf i).toNat);·exact ⟨0,X3,rfl,rfl,a1⟩
 case round =>
  obtain ⟨k,aj,rfl,rfl,d⟩:=hrel;clear a1;by_cases h:k<n+3
  ·have y:=d.out.cell (r:=0) X0 h (by omega);have D:=λf=>(Xc2 wr f (Xa g.heap.size _) d.out.lt).trans (d.out.cell (r:=1) X0 h (by omega));have E:=λf=>(Xc2 wr f (Xa g.heap.size _) d.out.lt).trans (d.out.cell (r:=2) X0 h (by omega));have F:=λf=>(Xc2 wr f (Xa g.heap.size _) d.out.lt).trans (d.out.cell (r:=3) X0 h (by omega));have H:=λf=>(Xc2 wr f (Xa g.heap.size _) d.out.lt).trans (d.out.cell (r:=4) X0 h (by omega));have p:=d.out.cell (r:=0) X0 h (by omega);have z:=d.out.cell (r:=1) X0 h (by omega);have A:=d.out.cell (r:=2) X0 h (by omega);have B:=d.out.cell (r:=3) X0 h (by omega);have C:=d.out.cell (r:=4) X0 h (by omega);have N:=d.out.frozen;have v:=d.out.lt;simp only [Nat.add_zero] at y p;by_cases t:k<n
   ·have el:ZA L G n k=Qbu (L k) (G k):=by unfold ZA;rw [if_pos t]
    simp only [el] at y D E F H p z A B C;clear el;obtain ⟨b,av,rfl,O⟩:=af.out (by omega);have o:=O.lt;have q:=(O.node k t);have s:=d.out.below;have a8:=λf=>(Xc2 wr f (Xa b _) (Xc6 o v)).trans ((Xh s b _ o).trans q.c0);have a9:=λf=>(Xc2 wr f (Xa b _) (Xc6 o v)).trans ((Xh s b _ o).trans q.c1);have aa:=λf=>(Xc2 wr f (Xa b _) (Xc6 o v)).trans ((Xh s b _ o).trans q.c2);have R:=λf=>(Xc2 wr f (Xa b _) (Xc6 o v)).trans ((Xh s b _ o).trans q.c3);have ab:=λf=>(Xc2 wr f (Xa b _) (Xc6 o v)).trans ((Xh s b _ o).trans q.c4);have a6:b≠wr.heap.size:=by omega
    have a7:g.heap.size≠wr.heap.size:=by omega
    cases x:(L k).ao with
    | none =>
     have a2:=a0.out.nil k t x;simp only [QkE x a2,Qcw] at y D E F H p z A B C;simp only [x,a2] at R;go_wp2;go_roundw;·exact ⟨k+1,by omega,by go_num,rfl,Qa (((d.out.pass.over J.out _ _ _ _ _).alloc _).alloc _)⟩
     simp [intOf];omega
    | some a3 =>
     have K:(L k).ao≠none:=by rw [x];simp
     simp only [Qid K,Qcw] at y D E F H p z A B C;simp only [x] at R;have a5:=a0.out.few k t;have U:Hid (∀ f S,Zn ((wr.alloc f).alloc S) (some a3) (L k).an (L k).nm (L k).vl):=Qa (λf S=>by rw [<- x];exact q.ok.at'.below ((s.alloc (by omega) f).alloc (by simp;omega) S));clear q O s;go_wp2_with (go_at_call 21;refine (QkU (some a3) (L k).an (L k).ac (L k).nm (L k).vl _ a5 (Qb U _ _)).mono ?_;rintro e ak ⟨rfl,V,W⟩);have I:=Inn.start ((d.out.alloc _).alloc _) t K V W;simp only [World.size_alloc] at I;replace I:=Qa I;clear V W U d y D E F H p z A B C a8 a9 aa R ab N a7 a6 v;generalize wr.heap.size+1+1=ad at *;go_loopw [5,11] (λM i ae=>∃ m:Nat,m<=(L k).an+3/\i=Xi m/\M=.bool true/\Hid (Inn w g ae g.heap.size L G n k ad m)) (λ_ i _=>(L k).an+3-(intOf i).toNat);·exact ⟨0,X3,rfl,rfl,I⟩
     case round =>
      obtain ⟨m,al,rfl,rfl,d⟩:=hrel;clear I;by_cases ai:m<(L k).an+3
      ·obtain ⟨ap,aq,q0⟩:=d.out.cells (j:=m*2) X0 (by omega);obtain ⟨ar,au,q1⟩:=d.out.cells (j:=m*2+1) (by omega) (by omega);have N:=d.out.frozen;go_wp2;go_big_quiet (fail);go_wp2;go_roundw;·exact ⟨m+1,by omega,by go_num,rfl,Qa ((d.out.grow (Qv X4 _)).step J.out t K _ _)⟩
       simp [intOf];omega
      have u:=Qa d.out.rest;clear d;have p:=u.out.cell (r:=0) X0 h (by omega);have z:=u.out.cell (r:=1) X0 h (by omega);have A:=u.out.cell (r:=2) X0 h (by omega);have B:=u.out.cell (r:=3) X0 h (by omega);have C:=u.out.cell (r:=4) X0 h (by omega);have N:=u.out.frozen;simp only [Nat.add_zero] at p;go_wp2;go_roundw;·exact ⟨k+1,by omega,by go_num,rfl,Qa (u.out.over J.out _ _ _ _ _)⟩
      simp [intOf];omega
   have el:ZA L G n k=Qef:=by unfold ZA;rw [if_neg t]
   simp only [el,Qef,Qcw,Qig] at y D E F H p z A B C;clear el;go_wp2;go_roundw;·exact ⟨k+1,by omega,by go_num,rfl,Qa (((d.out.pass.over J.out _ _ _ _ _).alloc _).alloc _)⟩
   simp [intOf];omega
  go_wp2;go_ret;exact ⟨rfl,d.out.below,d.out.far⟩
theorem Qw3 (ao:Option Addr) (g n c:Nat) (w:World) (d:n<=140737488351232) : Xl 35 #[Xe g (n+3) (n+3),.slice ao n c] w λe w'=>e=.returned (.slice (QaV ao g) (Qbo ao n) (Qby ao n))/\w'=w:=by have b:∀ w a l c,(binOp .eql 25 (.slice a l c) Xv).run Tryz.prog w=.ok (.bool a.isNone) w:=λw a l c => Lib.run_eql_slice_nil (P:=Tryz.prog) w 25 29 a l c 0 0 Tryz.underlying25;cases ao with| none =>go_enter Tryz.func35,Tryz.ntmps35;go_wp2;go_ret;exact ⟨rfl,rfl⟩| some f =>go_enter Tryz.func35,Tryz.ntmps35;go_wp2;go_ret;exact ⟨rfl,rfl⟩
theorem Qi.drewN {S:Nat->Prop} {w w':World} (a:Qi S w w') (n:Nat):Qi S w (w'.drewN n):=⟨a.os,a.tape,a.output,a.size,a.block⟩
structure Qcn (w0 w:World) (g n m:Nat) (X:Nat->Qh):Prop where
 row:∃ f,w.rowIs g 29 ((n+3)*8) f/\∀ j,m*8<=j->f j=Jm (J1 X n) j
 want:w.rowIs w0.heap.size 29 ((n+3)*8) (Jm (J1 X n))
 ne:g<w0.heap.size
 touch:Qi (λb=>b=g) w0 w
theorem Qcn.next (a:Qcn w0 w g n m X):Qcn w0 w g n (m+1) X:=by obtain ⟨f,b,c⟩:=a.row;exact ⟨⟨f,b,λj d=>c j (by omega)⟩,a.want,a.ne,a.touch⟩
theorem Qcn.drewN {b w:World} {g n m:Nat} {c:Nat->Qh} (a:Qcn b w g n m c) (q:Nat):Qcn b (w.drewN q) g n m c:=by obtain ⟨f,d,h⟩:=a.row;exact ⟨⟨f,d.of_block rfl,h⟩,a.want.of_block rfl,a.ne,a.touch.drewN q⟩
theorem Qcn.set {b w:World} {g n m:Nat} {c:Nat->Qh} (a:Qcn b w g n m c) {j:Nat} (l:j<m*8) (v:Value):Qcn b (w.setCell (Xa g j) v) g n m c:=by obtain ⟨f,d,h⟩:=a.row;refine ⟨⟨_,d.set j v,λi k=>?_⟩,a.want.setOther (by have:=a.ne;show b.heap.size≠g;omega) v,a.ne,a.touch.set (.inl rfl) v⟩;rw [if_neg (by omega)];exact h i k
theorem Qvw ao (g n c:Nat) k w (A:n*88<=140737488351232) (z:JV w ao n k) (v:w.rowIs g 29 ((n+3)*8) (Jm (J1 k n))) : Xl 36 #[Xe g (n+3) (n+3),.slice ao n c] w λe w'=>e=.returned (.bool true)/\Qi (λb=>b=g) w w':=by
 have C:=Qa z;have o:=Qa v;clear z v;go_enter Tryz.func36,Tryz.ntmps36;go_wp2_with (first|(go_at_call 33;refine (QlB ao n c k _ A (Qb C)).mono ?_;rintro e w2 ⟨rfl,q,u⟩));have y:Hid (Qcn w w2 g n 0 k):=Qa ⟨⟨_,Qdb o.out q o.out.lt,λ_ _=>rfl⟩,u,o.out.lt,Qi.of_below q⟩;clear q u o;go_loopw [6,7] (λb i wr=>∃ m:Nat,m<=n+3/\b=.bool true/\i=Xi m/\Hid (Qcn w wr g n m k)) (λ_ i _=>n+3-(intOf i).toNat);·exact ⟨0,X3,rfl,rfl,y⟩
 case round =>
  obtain ⟨m,G,rfl,rfl,l⟩:=hrel;clear y;by_cases D:m<n+3
  ·obtain ⟨f,p,s⟩:=l.out.row;have d:∀ r,r<8->wr.cell? (Xa g (m*8+r))=some (QY (J1 k n m) r):=λr t=>by rw [p.cell (by omega),s _ (by omega),QcD _ _ _ t]
   have h:∀ r,r<8->wr.cell? (Xa w.heap.size (m*8+r))=some (QY (J1 k n m) r):=λr t=>by rw [l.out.want.cell (by omega),QcD _ _ _ t]
   have a:=p.frozen;have E:=l.out.ne;generalize J1 k n m=x at *;have H:Xc wr g (m*8) (Xi x.kind):=d 0 (by omega);have I:Xc wr g (m*8+1) (Xi x.id):=d 1 (by omega);have J:Xc wr g (m*8+2) (Xi x.par):=d 2 (by omega);have K:Xc wr g (m*8+3) (Xi x.bef):=d 3 (by omega);have L:Xc wr g (m*8+4) (Xi x.key):=d 4 (by omega);have M:Xc wr g (m*8+5) (.string x.tag):=d 5 (by omega);have N:Xc wr g (m*8+6) (.string x.name):=d 6 (by omega);have O:Xc wr g (m*8+7) (.string x.text):=d 7 (by omega);have P:Xc wr w.heap.size (m*8) (Xi x.kind):=h 0 (by omega);have R:Xc wr w.heap.size (m*8+1) (Xi x.id):=h 1 (by omega);have S:Xc wr w.heap.size (m*8+2) (Xi x.par):=h 2 (by omega);have T:Xc wr w.heap.size (m*8+3) (Xi x.bef):=h 3 (by omega);have U:Xc wr w.heap.size (m*8+4) (Xi x.key):=h 4 (by omega);have V:Xc wr w.heap.size (m*8+5) (.string x.tag):=h 5 (by omega);have W:Xc wr w.heap.size (m*8+6) (.string x.name):=h 6 (by omega);have X:Xc wr w.heap.size (m*8+7) (.string x.text):=h 7 (by omega);have Y:=a (m*8);have a0:=a (m*8+1);have a1:=a (m*8+2);have a2:=a (m*8+3);have a3:=a (m*8+4);have a4:=a (m*8+5);have a5:=a (m*8+6);have a6:=a (m*8+7);have a7:(0:Int)<=(m:Int):=by omega
   have a8:(m:Int)<((n+3:Nat):Int):=by omega
   have a9:(m:Int)<(n:Int)+3:=by omega
   have aa:=Qa p;have F:=Qa s;clear d h a p s;go_wp2;go_big_quiet (fail);go_wp2_with fail;rename_i nq;have B:=(((((((((l.out.next.drewN nq).set (j:=m*8) (by omega) (Xi 0)).set (j:=m*8+1) (by omega) (Xi 0)).set (j:=m*8+2) (by omega) (Xi 0)).set (j:=m*8+3) (by omega) (Xi 0)).set (j:=m*8+4) (by omega) (Xi 0)).set (j:=m*8+5) (by omega) (.string ⟨#[111,118,101,114]⟩)).set (j:=m*8+6) (by omega) Xo).set (j:=m*8+7) (by omega) Xo);go_roundw;·exact ⟨m+1,by omega,rfl,by go_num,Qa B⟩
   simp [intOf];omega
  go_wp2;go_ret;exact ⟨rfl,l.out.touch⟩
theorem Qrl:(Tryz.prog.info? 69).map (λi=>(i.zero,i.size,i.bytes))=some (some Xv,1,24):=by kernel_rfl
def Qa0 (m:Int):Nat->Value:=λ_=>Xi m
theorem QiX (m:Int) (r:Nat):(Qa0 m r).oneCell'=true:=rfl
def Z3 (i:Nat):Int:=-1000-(i:Int) / 4
structure QjG (S:Nat->Prop) (w:World) (v:Value) (E:List Value):Prop where
 row:w.ownsRow 0 69 1 v E.length E
 each:∀ i,(hi:i<E.length)->Jk S (Qa0 (Z3 i)) 1 w E[i]
 apart:∀ b,v.ownBlock=some b->¬ S b
theorem Jk.block (p:Jk S pat size w v) (f:∀ b,b<w.heap.size->S b->w'.heap[b]?=w.heap[b]?/\S' b) (i:w.heap.size<=w'.heap.size):Jk S' pat size w' v:=by obtain ⟨ao,n,c,e,k,a,l⟩:=p;refine ⟨ao,n,c,e,k,λd e=>⟨(f _ (a d e).2 (a d e).1).2,Xb4 (a d e).2 i⟩,λj m=>?_⟩;obtain ⟨b,g,o⟩:=l j m;have h:=a _ g;exact ⟨b,g,(Xk b j (f b h.2 h.1).1).trans o⟩
theorem Qir {P:Value->Prop} {a b c d:Value} (g:P a) (h:P b) (i:P c) (k:P d):∀ j,(f:j<[a,b,c,d].length)->P ([a,b,c,d][j]):=by
 intro j f
 match j,f with
 | 0,_=>exact g
 | 1,_=>exact h
 | 2,_=>exact i
 | 3,_=>exact k
def Qds (m:Int) (a:List Value) (i:Nat):List Value:=QO (Qa0 m) 1 i++a.drop i
theorem Qsy (m:Int) (a:List Value):Qds m a 0=a:=by unfold Qds QO;simp
theorem Qon (m:Int) (a:List Value):Qds m a a.length=QO (Qa0 m) 1 a.length:=by unfold Qds;simp
theorem QwS (m:Int) (a:List Value) (i:Nat) (b:i<a.length):(Qds m a i).set i (Xi m)=Qds m a (i+1):=by unfold Qds;rw [set_append_right _ _ (by rw [QbA];omega),QbA,Nat.mul_one,Nat.sub_self,drop_eq_getElem_cons b,set_cons_zero,<- QcY,append_assoc];rfl
theorem Ju (w:World) (a:Obj):(w.alloc a).heap.size=w.heap.size+1:=by simp
theorem Z1 {g:Obj} {l a:Value} (c:Hid (ZV (w.alloc g) w' l a)) (d:b<w.heap.size) (f:some b≠l.ownBlock):w'.heap[b]?=w.heap[b]? := (c.out.by.block b (by rw [Ju];omega) f).trans (Xc1 _ _ _ d)
theorem Qb6 {c:Obj} {l d:Value} (a:w.ownsRow 0 e size v n xs) (f:Hid (ZV (w.alloc c) w' l d)) (g:l.ownBlock=none \/ l.ownBlock≠v.ownBlock):w'.ownsRow 0 e size v n xs:=by
 refine (a.alloc c).kept f.out.by ?_;cases h:v.ownBlock with
 | none=>exact .inl rfl
 | some b=>exact .inr (λe=>by
  rcases g with a|a
  ·rw [a] at e;cases e
  exact a (by rw [h,e]))
theorem Qn7 (m:Int) (w:World) (t:TypeId):∀ j u,(QO (Qa0 m) 1 1)[j]?=some u->(w.alloc (.cells #[Xi m] t)).cell? (((Xa w.heap.size 0):Addr).add j)=some u := λj u a=>Q3 w #[Xi m] t _ rfl j u a
theorem Qr7 (m:Int) (w:World) (t:TypeId):∀ j u,(QO (Qa0 m) 1 2)[j]?=some u->(w.alloc (.cells #[Xi m,Xi m] t)).cell? (((Xa w.heap.size 0):Addr).add j)=some u := λj u a=>Q3 w #[Xi m,Xi m] t _ rfl j u a
theorem Qup (m:Int) (w:World) (t:TypeId):∀ j u,(QO (Qa0 m) 1 3)[j]?=some u->(w.alloc (.cells #[Xi m,Xi m,Xi m] t)).cell? (((Xa w.heap.size 0):Addr).add j)=some u := λj u a=>Q3 w #[Xi m,Xi m,Xi m] t _ rfl j u a
structure LAt (S:Nat->Prop) (w:World) (e:TypeId) (v:Value) (E:List Value) (pat:Nat->Nat->Value) (size:Nat):Prop where
 row:w.ownsRow 0 e 1 v E.length E
 each:∀ i,(hi:i<E.length)->Jk S (pat i) size w E[i]
def Qkg (S:Nat->Prop) (pt:Nat->Nat->Value) (size:Nat) (g:TypeId) (a bk:Nat) (w:World) (v l:Value) (E:List Value) (w':World):Prop :=
 Qi (λb=>b=a \/ some b=v.ownBlock \/ some b=l.ownBlock) w w'/\∃ c f,w'.cell? (Xa a bk)=some c/\w'.frozen? (Xa a bk)=false/\f.length=E.length+4/\(∀ b,c.ownBlock=some b->v.ownBlock=some b \/ w.heap.size<=b)/\(∀ d,d≠bk->w'.cell? (Xa a d)=w.cell? (Xa a d)/\w'.frozen? (Xa a d)=w.frozen? (Xa a d)) /\
  LAt (λb=>S b \/ some b=l.ownBlock \/ (w.heap.size<=b/\b<w'.heap.size/\some b≠c.ownBlock)) w' g c f pt size/\∀ b,c.ownBlock=some b->¬ (S b \/ some b=l.ownBlock \/ (w.heap.size<=b/\b<w'.heap.size/\some b≠c.ownBlock))
theorem QiZ {pt:Nat->Nat->Value} {x el:TypeId} {O1 O2 O3 O4:Obj} {bk:Nat} {l q3 v4 v0:Value} (pat:Nat->Value) (H:LAt S w x v E pt size) (B:∀ b,v.ownBlock=some b->¬ S b) (K:∀ b,S b->b<w.heap.size) (r:n<=4294967296) (M:∀ i,E.length<=i->i<E.length+4->pt i=pat) (L:∀ b,l.ownBlock=some b->b<w.heap.size) (a5:¬ S bb) (N:bb<w.heap.size) (C:some bb≠v.ownBlock) (D:some bb≠l.ownBlock) (O:l.ownBlock=none \/ l.ownBlock≠v.ownBlock) (P:∀ b,l.ownBlock=some b->¬ S b) (m:Qi (λb=>some b=l.ownBlock) w wr) (g:Hid (ZV (wr.alloc O1) w1 l q1)) (h:Hid (ZV (w1.alloc O2) w2 l q2)) (j:Hid (ZV (w2.alloc O3) w3 l q3)) (f:Hid (ZV (w3.alloc O4) w4 v v4)) (R:JI pat size (w1.alloc O2) w2) (F:JI pat size (w2.alloc O3) w3) (T:w3.ownsRow 0 el size l n (QO pat size n)) (U:w1.ownsRow 0 el size q1 (n+1) (QO pat size n++QO pat size 1)) (V:w2.ownsRow 0 el size q2 (n+2) (QO pat size n++QO pat size 2)) (W:w3.ownsRow 0 el size q3 (n+3) (QO pat size n++QO pat size 3)) (X:w4.ownsRow 0 x 1 v4 (E.length+4) (E++[l,q1,q2,q3])) (Y:w4.cell? (Xa bb bk)=some v0) (a0:w4.frozen? (Xa bb bk)=false):Qkg S pt size x bb bk w v l E (w4.setCell (Xa bb bk) v4):=by
 have ad:=m.size;have a1:=g.out.size;have a2:=h.out.size;have a3:=j.out.size;have a4:=f.out.size;rw [Ju] at a1 a2 a3 a4;have p:∀ b,b<w3.heap.size->b≠bb->some b≠v.ownBlock->(w4.setCell (Xa bb bk) v4).heap[b]?=w3.heap[b]?:=λb c d a6 => (Below.heap_setCell w4 (Xa bb bk) _ b d).trans (Z1 f c a6);have t:∀ b,b<w.heap.size->some b≠l.ownBlock->w3.heap[b]?=w.heap[b]?:=λb c d => (Z1 j (by omega) d).trans ((Z1 h (by omega) d).trans ((Z1 g (by omega) d).trans (m.block b c d)));have o:(w4.setCell (Xa bb bk) v4).heap.size=w4.heap.size:=QJ _ _ _;have z:∀ b,v.ownBlock=some b->b<w.heap.size:=λb e=>(H.row.lt b e).2;have k:∀ b,v4.ownBlock=some b->v.ownBlock=some b \/ b=w3.heap.size+1:=λb e=>by
  rcases f.out.at with a|a
  ·exact .inl (a.symm.trans e)
  rw [a,Ju] at e;exact .inr (Xb5 e).symm
 have A:∀ b,l.ownBlock=some b->v.ownBlock≠some b:=λb e s=>by
  rcases O with a|a
  ·rw [a] at e;cases e
  exact a (e.trans s.symm)
 have a7:Jk (λb=>some b=l.ownBlock \/ w.heap.size<=b) pat size w3 l:=Qdm T (by omega) (λb e=>.inl e.symm);have a8:Jk (λb=>some b=l.ownBlock \/ w.heap.size<=b) pat size w3 q1:=by
  refine Jk.keeps (w:=w1) (Qdm (by rw [<- QcY];exact U) (by omega) (λb e=>?_)) (((JI.alloc _ _ _ _).trans R).trans ((JI.alloc _ _ _ _).trans F)) (by omega) (λ_ _ a=>a);rcases g.out.at with a|a
  ·exact .inl (e.symm.trans a)
  rw [a,Ju] at e;right;have:=Xb5 e;omega
 have a9:Jk (λb=>some b=l.ownBlock \/ w.heap.size<=b) pat size w3 q2:=by
  refine Jk.keeps (w:=w2) (Qdm (by rw [<- QcY];exact V) (by omega) (λb e=>?_)) ((JI.alloc _ _ _ _).trans F) (by omega) (λ_ _ a=>a);rcases h.out.at with a|a
  ·exact .inl (e.symm.trans a)
  rw [a,Ju] at e;right;have:=Xb5 e;omega
 have aa:Jk (λb=>some b=l.ownBlock \/ w.heap.size<=b) pat size w3 q3:=by
  refine Qdm (by rw [<- QcY];exact W) (by omega) (λb e=>?_);rcases j.out.at with a|a
  ·exact .inl (e.symm.trans a)
  rw [a,Ju] at e;right;have:=Xb5 e;omega
 have q:∀ u,Jk (λb=>some b=l.ownBlock \/ w.heap.size<=b) pat size w3 u->Jk (λb=>S b \/ some b=l.ownBlock \/ (w.heap.size<=b/\b<(w4.setCell (Xa bb bk) v4).heap.size/\some b≠v4.ownBlock)) pat size (w4.setCell (Xa bb bk) v4) u:=by
  intro u ab;refine ab.block (λb c a=>?_) (by rw [o];omega);rcases a with a|a
  ·refine ⟨p b c (λe=>D (by rw [<- e];exact a)) (λe=>A b a.symm e.symm),.inr (.inl a)⟩
  refine ⟨p b c (λe=>by omega) (λe=>by have:=z b e.symm;omega),.inr (.inr ⟨a,by rw [o];omega,λe=>?_⟩)⟩;rcases k b e.symm with e|e
  ·have:=z b e;omega
  omega
 refine ⟨⟨?_,?_,?_,?_,?_⟩,v4,E++[l,q1,q2,q3],?_,?_,?_,?_,?_,⟨?_,?_⟩,?_⟩
 ·exact f.out.by.os.trans (j.out.by.os.trans (h.out.by.os.trans (g.out.by.os.trans m.os)))
 ·exact f.out.by.tape.trans (j.out.by.tape.trans (h.out.by.tape.trans (g.out.by.tape.trans m.tape)))
 ·exact f.out.by.output.trans (j.out.by.output.trans (h.out.by.output.trans (g.out.by.output.trans m.output)))
 ·rw [o];omega
 ·intro b c r;exact (p b (by omega) (λe=>r (.inl e)) (λe=>r (.inr (.inl e)))).trans (t b c (λe=>r (.inr (.inr e))))
 ·simp [go_sem,Y]
 ·simp [go_sem,a0]
 ·rw [length_append];rfl
 ·exact λb e=>(k b e).imp id (λe=>by omega)
 ·intro J ac;have I:w4.heap[bb]?=w.heap[bb]?:=(Z1 f (by omega) C).trans (t bb N D);exact ⟨(Xb9 _ _ _ _ (λe=>ac (by cases e;rfl))).trans (Xk bb J I),(Xd4 ..).trans (Xm bb J I)⟩
 ·rw [length_append];refine Qbl X (.inr (λe=>?_));rcases k bb e with e|e
  ·exact C e.symm
  omega
 ·intro i y;by_cases G:i<E.length
  ·rw [getElem_append_left G];refine (H.each i G).block (λb c a=>⟨?_,.inl a⟩) (by rw [o];omega);have d:some b≠l.ownBlock:=λe=>P b e.symm a;exact (p b (by omega) (λe=>a5 (by rw [<- e];exact a)) (λe=>B b e.symm a)).trans (t b c d)
  rw [length_append] at y;simp at y;rw [getElem_append_right (by omega),M i (by omega) y];exact Qir (q _ a7) (q _ a8) (q _ a9) (q _ aa) _ _
 intro b e a;rcases a with a|a|a
 ·rcases k b e with e|e
  ·exact B b e a
  have:=K b a;omega
 ·rcases k b e with s|s
  ·exact A b a.symm s
  have:=L b a.symm;omega
 exact a.2.2 e.symm
theorem Qrb (S:Nat->Prop) (c d:Nat) (v:Value) (E:List Value) (l:Value) (n:Nat) (C:List Value) (w:World) (b3:E.length<=17179869184) (b4:E.length % 4=0) (a7:∀ b,S b->b<w.heap.size) (x:n<=4294967296) (M:w.cell? (Xa c d)=some v) (a4:w.frozen? (Xa c d)=false) (q:QjG S w v E) (D:w.ownsRow 0 3 1 l n C) (aB:¬ S c) (U:some c≠v.ownBlock) (p:some c≠l.ownBlock) (t:l.ownBlock=none \/ l.ownBlock≠v.ownBlock) (a9:∀ b,l.ownBlock=some b->¬ S b) : Xl 31 #[.pointer (some (Xa c d)),l] w λe w'=>e=.returned (.tuple #[]) /\ Qi (λb=>b=c \/ some b=v.ownBlock \/ some b=l.ownBlock) w w'/\∃ r F,w'.cell? (Xa c d)=some r/\w'.frozen? (Xa c d)=false/\F.length=E.length+4/\(∀ b,r.ownBlock=some b->v.ownBlock=some b \/ w.heap.size<=b)/\(∀ y,y≠d->w'.cell? (Xa c y)=w.cell? (Xa c y)/\w'.frozen? (Xa c y)=w.frozen? (Xa c y)) /\ QjG (λb=>S b \/ some b=l.ownBlock \/ (w.heap.size<=b/\b<w'.heap.size/\some b≠r.ownBlock)) w' r F:=by
 obtain ⟨N,O,H,I,J⟩:=info_parts QbF;obtain ⟨aC,aD,aa,ab,ac⟩:=info_parts Qrl;obtain ⟨ao,G,rfl⟩:=Qy q.row;obtain ⟨h,j,rfl⟩:=Qy D;have K:=block_lt_of_cell M;have aE:=Qa q;have P:=Qa D;have a8:=Qa (λwr w1 w2 w3 w4 O1 O2 O3 O4 q1 q2 q3 v4 v0=>QiZ (wr:=wr) (w1:=w1) (w2:=w2) (w3:=w3) (w4:=w4) (O1:=O1) (O2:=O2) (O3:=O3) (O4:=O4) (q1:=q1) (q2:=q2) (q3:=q3) (v4:=v4) (v0:=v0) (bk:=d) (el:=3) (n:=n) (pt:=λi=>Qa0 (Z3 i)) (Qa0 (Z3 E.length)) ⟨q.row,q.each⟩ q.apart a7 x (λi b5 b6=>by show Qa0 (Z3 i)=_;rw [show Z3 i=Z3 E.length by unfold Z3;omega]) (λb e=>(D.lt b e).2) aB K U p t a9);clear q D;go_enter Tryz.func31,Tryz.ntmps31;go_wp2_with fail;have ad:Hid (-1000-(E.length:Int) / 4=Z3 E.length):=rfl;have aW:(-1000:Int)-(E.length:Int) / 4<=0:=by omega
 have aX:(-9000000000000:Int)<=-1000-(E.length:Int) / 4:=by omega
 generalize ae:(-1000-(E.length:Int) / 4)=f at *;clear ae;go_loopw [5] (λi wr=>∃ k:Nat,k<=n/\i=Xi k/\Hid (wr.ownsRow 0 3 1 (.slice h n j) n (Qds f C k))/\Hid (Qi (λb=>some b=Value.ownBlock (.slice h n j)) w wr)) (λi _=>n-(intOf i).toNat);·exact ⟨0,X3,rfl,by rw [Qsy];exact P,Qa (Qi.of_below X4)⟩
 case round =>
  obtain ⟨k,b7,rfl,o,m⟩:=hrel;have V:C.length=n:=by have:=P.out.1;omega
  by_cases aZ:k<n
  ·obtain ⟨g,rfl⟩:∃ g,h=some (Xa g 0):=by
    rcases P.out.2 with ⟨_,e⟩|⟨g,b0,b1,e,_⟩
    ·omega
    simp only [Value.slice.injEq] at e;exact ⟨g,e.1⟩
   obtain ⟨u,b8⟩:∃ u,wr.cell? (Xa g k)=some u:=by rw [o.out.cellAt k (by omega)];exact ⟨_,Xa1 (by have:=o.out.1;omega)⟩
   have b9:=o.out.frozenAt k;have a5:=Qa (o.out.stored k (Xi f)).1;rw [QwS f C k (by omega)] at a5;have aF:=Qa (m.out.set (a:=(Xa g k)) (.inl rfl) (Xi f));clear o m;go_wp2;go_roundw;·exact ⟨k+1,by omega,by go_num,a5,aF⟩
   simp [intOf];omega
  have W:k=n:=by omega
  have aG:Hid (wr.ownsRow 0 3 1 (.slice h n j) n (QO (Qa0 f) 1 n)):=by have:=o.out;rw [W,<- V,Qon,V] at this;exact Qa this
  clear o W;have af:=m.out.size;have s:∀ b,b<w.heap.size->some b≠Value.ownBlock (.slice h n j)->wr.heap[b]?=w.heap[b]?:=λb R x=>m.out.block b R x;have aH:Hid (wr.ownsRow 0 69 1 (.slice ao E.length G) E.length E):=Qa (by
   refine aE.out.row.kept (row:=Value.ownBlock (.slice h n j)) ⟨m.out.os,m.out.tape,m.out.output,af,λb R x=>s b R x⟩ ?_;cases aI:Value.ownBlock (.slice ao E.length G) with
   | none=>exact .inl rfl
   | some b=>exact .inr (λe=>by
    rcases t with T|T
    ·rw [T] at e;cases e
    exact T (by rw [aI,e])))
  have ag:Xc wr c d (.slice ao E.length G):=(Xk c d (s c K p)).trans M;have ah:Xf wr c d:=(Xm c d (s c K p)).trans a4;have aY:=Qa s;clear s M a4;go_wp2_with (first|(at_builtin;refine Qb7 _ rfl (.tmp 26) (.tmp 28) 69 rfl 3 N _ 1 8 Tryz.underlying69 O H I J rfl (Qa0 f) (QiX f) (.slice h n j) n _ rfl ((Qb aG).alloc _) (Xa wr.heap.size 0) 1 1 rfl (by omega) (Qn7 f _ _) (by omega) (by omega) ?_;intro q1 w1 X ai z b2;obtain ⟨aJ,aK,rfl⟩:=Qy (Qb X);have aj:=(Qb z).size;rw [Ju] at aj)|(at_builtin;refine Qb7 _ rfl (.tmp 30) (.tmp 33) 69 rfl 3 N _ 1 8 Tryz.underlying69 O H I J rfl (Qa0 f) (QiX f) (.slice h n j) n _ rfl ((Qb ai).alloc _) (Xa w1.heap.size 0) 2 2 rfl (by omega) (Qr7 f _ _) (by omega) (by omega) ?_;intro q2 w2 Y ak A al;obtain ⟨aL,aM,rfl⟩:=Qy (Qb Y);have ap:=(Qb A).size;rw [Ju] at ap)|(at_builtin;refine Qb7 _ rfl (.tmp 35) (.tmp 39) 69 rfl 3 N _ 1 8 Tryz.underlying69 O H I J rfl (Qa0 f) (QiX f) (.slice h n j) n _ rfl ((Qb ak).alloc _) (Xa w2.heap.size 0) 3 3 rfl (by omega) (Qup f _ _) (by omega) (by omega) ?_;intro q3 w3 a0 aq B ar;obtain ⟨aN,aO,rfl⟩:=Qy (Qb a0);have au:=(Qb B).size;rw [Ju] at au;have a1:Hid (w3.heap[c]?=wr.heap[c]?):=Qa ((Z1 B (by omega) p).trans ((Z1 A (by omega) p).trans (Z1 z (by omega) p)));have av:=(Xk c d (Qb a1)).trans ag;have aw:=(Xm c d (Qb a1)).trans ah;have ax:=Qa (Qb6 (Qb6 (Qb6 (Qb aH) z t) A t) B t))|(at_builtin;refine Zp _ rfl (.tmp 45) (.tmp 50) 36 rfl 0 69 aC _ 1 24 Tryz.underlying36 aD aa ab ac rfl (.slice ao E.length G) E.length E rfl ((Qb ax).alloc _) (some (Xa w3.heap.size 0)) 4 4 [.slice h n j,.slice aJ (n+1) aK,.slice aL (n+2) aM,.slice aN (n+3) aO] rfl (by simp) rfl (Q3 _ _ _) (by simp [Value.oneCell']) (by omega) (by omega) X3 ?_;intro ba w4 a2 L _;obtain ⟨bb,bc,rfl⟩:=Qy (Qb a2);have ay:=(Qb L).size;rw [Ju] at ay;have a3:Hid (w4.heap[c]?=w3.heap[c]?):=Qa (Z1 L (by omega) U);have az:=(Xk c d (Qb a3)).trans av;have aA:=(Xm c d (Qb a3)).trans aw));go_end0;have e:=ad.out;subst e;obtain ⟨aP,r,F,aQ,aR,aS,aT,aU,a6,aV⟩:=a8.out wr w1 w2 w3 w4 _ _ _ _ _ _ _ _ _ m.out z A B L al.out ar.out aq.out X.out Y.out a0.out a2.out az aA;exact ⟨rfl,aP,r,F,aQ,aR,aS,aT,aU,⟨a6.row,a6.each,aV⟩⟩
def Qes (k:Nat):ByteArray:=({ data:=#[48,49,50,51,52,53,54,55,56,57] }:ByteArray).extract (k % 10) (k % 10+1)
theorem QnM (k:Nat):(Qes k).size=1:=by unfold Qes;rw [ByteArray.size_extract];have:({ data:=#[48,49,50,51,52,53,54,55,56,57] }:ByteArray).size=10:=rfl;rw [this];omega
def Qew:Nat->Nat->ByteArray->ByteArray
 | 0,_,t=>t
 | f+1,k,t=>if 0<k then Qew f (k / 10) (t++Qes k) else t
def Qfx (n:Nat):ByteArray:=Qew (n+1) n ⟨#[35]⟩
theorem Qk6 (n:Nat) (w:World) (l:n<=4294967296) : Xl 20 #[Xi n] w λe w'=>e=.returned (.string (Qfx n))/\w'=w:=by
 go_enter Tryz.func20,Tryz.ntmps20;go_wp2;go_loopw [0,3] (λi s wr=>∃ (k f:Nat) (t:ByteArray),i=Xi k/\k<=n/\s=.string t/\k<f/\t.size+k<=n+1/\Hid (Qew f k t=Qfx n)/\wr=w) (λi _ _=>(intOf i).toNat);·exact ⟨n,n+1,_,rfl,X0,rfl,Xd2 _,by show 1+n<=n+1;omega,rfl,rfl⟩
 case round =>
  obtain ⟨k,f,t,rfl,m,rfl,o,h,a,rfl⟩:=hrel;obtain ⟨f,rfl⟩:∃ g,f=g+1:=⟨f-1,by omega⟩;by_cases c:0<k
  ·have b:Hid (Qew f (k / 10) (t++Qes k)=Qfx n):=by rw [<- a.out,Qew,if_pos c];exact rfl
   have j:(({ data:=#[48,49,50,51,52,53,54,55,56,57] }:ByteArray).extract (k % 10) (k % 10+1)).size=1:=QnM k;have d:Hid ((t++Qes k).size=t.size+1):=by rw [ByteArray.size_append,QnM];exact rfl
   clear a;go_wp2;go_roundw;·exact ⟨k / 10,f,_,by go_num,by omega,rfl,by omega,by have:=d.out;unfold Qes at this;rw [this];omega,b,trivial⟩
   simp [intOf];omega
  have b:Hid (t=Qfx n):=by rw [<- a.out,Qew,if_neg c];exact rfl
  clear a;go_wp2;go_ret;exact ⟨by rw [<- b.out];rfl,rfl⟩
end Go.Proofs.YtobgcaemnpkbmaaGreat
