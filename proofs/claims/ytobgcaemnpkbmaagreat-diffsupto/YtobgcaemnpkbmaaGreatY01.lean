import Derived.WalkKit
import Derived.Deep.Draws
import Derived.Test.YtobgcaemnpkbmaaGreatRows
import Derived.WalkSpells
import Derived.WalkLawsBesides
import Derived.Deep.RegionHeld3
import Derived.BigQuiet
import Derived.Deep.RegionWith
namespace Go.Proofs.YtobgcaemnpkbmaaGreat
set_option maxRecDepth 100000
set_option maxHeartbeats 8000000
open Go.RowKit List
variable {Q:Exit->Act->World->Prop} {d:Int} {B i j k n p:Nat} {vl:Nat->ByteArray} {ao:Option Addr} {v:Value} {w w':World}
theorem Qa {p:Prop} (a:p):Hid p:=a
theorem Qb {p:Prop} (a:Hid p):p:=a
theorem Qv {a:World} (b:Below B a w) (n:Nat):Below B a (w.drewN n):=b.trans ⟨rfl,rfl,rfl,Nat.le_refl _,λ_ _=>rfl⟩
def Qas (c:UInt8):Bool:=decide (97<=c.toNat)&&decide (c.toNat<=122)
def QK (s:ByteArray):Bool:=decide (1<=s.size)&&decide (s.size<=8)&&s.data.toList.all Qas
def ZD (s:ByteArray):Bool:=decide (s.size<=20)
theorem Qjo {s:ByteArray} (a:s.size<1):QK s=false:=by unfold QK;rw [decide_eq_false (by omega)];rfl
theorem Qko {s:ByteArray} (a:8<s.size):QK s=false:=by unfold QK;rw [decide_eq_false (p:=s.size<=8) (by omega)];simp
theorem Qj4 {s:ByteArray} (a:k<s.size) (d:Qas s[k]=false):QK s=false:=by
 have b:s.data.toList.all Qas=false:=by apply Bool.eq_false_iff.2;intro c;have:=all_eq_true.1 c s[k] (by have e:s[k]=s.data.toList[k]'(by simpa using a):=rfl;rw [e];exact getElem_mem _);rw [d] at this;cases this
 unfold QK;rw [b];simp
theorem QnD {s:ByteArray} (c:1<=s.size) (d:s.size<=8) (h:∀ k,(a:k<s.size)->Qas s[k]=true):QK s=true:=by
 have f:s.data.toList.all Qas=true:=by
  apply all_eq_true.2;intro x g;obtain ⟨k,a,e⟩:=getElem_of_mem g;have b:k<s.size:=by simpa using a
  have:=h k b;rw [<- e];exact this
 unfold QK;rw [f,decide_eq_true c,decide_eq_true d];rfl
theorem QpK {s:ByteArray} (b:s.size<1 \/ 8<s.size):QK s=false:=by
 rcases b with a|a
 ·exact Qjo a
 exact Qko a
theorem QoW {c:UInt8} (a:(97:Int)<=c.toNat) (b:(c.toNat:Int)<=122):Qas c=true:=by unfold Qas;rw [decide_eq_true (by omega),decide_eq_true (by omega)];rfl
theorem QmP {c:UInt8} (a:Qas c=true):(97:Int)<=c.toNat/\(c.toNat:Int)<=122:=by unfold Qas at a;simp at a;omega
theorem QkQ {c:UInt8} (d:¬ Qas c=true):(c.toNat:Int)<97 \/ ((97:Int)<=c.toNat/\(122:Int)<c.toNat):=by
 by_cases a:(c.toNat:Int)<97
 ·exact .inl a
 refine .inr ⟨by omega,?_⟩;by_cases b:(122:Int)<c.toNat
 ·exact b
 exact absurd (QoW (by omega) (by omega)) d
theorem Qky {s:ByteArray} (f:k<s.size) (c:∀ j,(a:j<s.size)->j<k->Qas s[j]=true) (b:Qas s[k]=true):∀ j,(a:j<s.size)->j<k+1->Qas s[j]=true:=by
 intro j a d;by_cases e:j=k
 ·subst e;exact b
 exact c j a (by omega)
theorem Zm {a b:Bool} (c:a=b):Ending.returned (.bool a)=.returned (.bool b):=by rw [c]
def JU (nm vl:Nat->ByteArray) (j:Nat):Bool:=QK (nm j)&&ZD (vl j)&&(decide (j=0)||Op.bytesLess (nm (j-1)).toList (nm j).toList)
def JX (n:Nat) (nm vl:Nat->ByteArray):Bool:=decide (n<=5)&&(List.range n).all (JU nm vl)
theorem Qma {nm:Nat->ByteArray} (a:5<n):JX n nm vl=false:=by unfold JX;rw [decide_eq_false (by omega)];rfl
theorem QeI {nm:Nat->ByteArray} (a:k<n) (c:JU nm vl k=false):JX n nm vl=false:=by
 have:(List.range n).all (JU nm vl)=false:=by apply Bool.eq_false_iff.2;intro b;have:=all_eq_true.1 b k (mem_range.2 a);rw [c] at this;cases this
 unfold JX;rw [this];simp
theorem QkD {nm:Nat->ByteArray} (a:n<=5) (c:∀ j,j<n->JU nm vl j=true):JX n nm vl=true:=by have:(List.range n).all (JU nm vl)=true:=all_eq_true.2 λj b=>c j (mem_range.1 b);unfold JX;rw [this,decide_eq_true a];rfl
theorem Qmx {nm:Nat->ByteArray} (a:QK (nm j)=false):JU nm vl j=false:=by unfold JU;rw [a];rfl
theorem Qnx {nm:Nat->ByteArray} (a:ZD (vl j)=false):JU nm vl j=false:=by unfold JU;rw [a];simp
theorem QmR {nm:Nat->ByteArray} (b:0<j) (a:Op.bytesLess (nm (j-1)).toList (nm j).toList=false):JU nm vl j=false:=by unfold JU;rw [a,decide_eq_false (by omega)];simp
theorem QjE {nm:Nat->ByteArray} (a:QK (nm 0)=true) (b:ZD (vl 0)=true):JU nm vl 0=true:=by unfold JU;rw [a,b];rfl
theorem Qlc {nm:Nat->ByteArray} (a:QK (nm j)=true) (b:ZD (vl j)=true) (c:Op.bytesLess (nm (j-1)).toList (nm j).toList=true):JU nm vl j=true:=by unfold JU;rw [a,b,c];simp
theorem Qdu {p:Nat->Bool} (b:∀ j,j<k->p j=true) (a:p k=true):∀ j,j<k+1->p j=true:=by
 intro j c;by_cases e:j=k
 ·subst e;exact a
 exact b j (by omega)
abbrev Xa (b o : Nat) : Addr := ⟨b, o, none⟩
@[simp, go_sem] abbrev Xc (w : World) (b o : Nat) (v : Value) : Prop := w.cell? ⟨b, o, none⟩ = some v
@[simp, go_sem] abbrev Xf (w : World) (b o : Nat) : Prop := w.frozen? ⟨b, o, none⟩ = false
abbrev Xi (x : Int) : Value := .int .i64 x
abbrev Xp (b : Nat) : Value := .pointer (some ⟨b, 0, none⟩)
abbrev Xl := Calls Tryz.prog
@[simp, go_sem] abbrev Xb (w w' : World) : Prop := Below w.heap.size w w'
theorem Xh {B : Nat} {w w' : World} (h : Below B w w') (b o : Nat) (hb : b < B) : w'.cell? ⟨b, o, none⟩ = w.cell? ⟨b, o, none⟩ := h.cell (p := ⟨b, o, none⟩) hb
theorem Xj {B : Nat} {w w' : World} (h : Below B w w') (b o : Nat) (hb : b < B) : w'.frozen? ⟨b, o, none⟩ = w.frozen? ⟨b, o, none⟩ := h.frozen (p := ⟨b, o, none⟩) hb
theorem Xk {w w' : World} (b o : Nat) (h : w'.heap[b]? = w.heap[b]?) : w'.cell? ⟨b, o, none⟩ = w.cell? ⟨b, o, none⟩ := World.cell?_of_block (a := ⟨b, o, none⟩) h
theorem Xm {w w' : World} (b o : Nat) (h : w'.heap[b]? = w.heap[b]?) : w'.frozen? ⟨b, o, none⟩ = w.frozen? ⟨b, o, none⟩ := World.frozen?_of_block (a := ⟨b, o, none⟩) h
theorem Xq : (∀ {α : Type} (l : List α) (i : Nat) (h : i < l.toArray.size), l.toArray[i] = l[i]'(by simpa using h)) ∧ (∀ {α : Type} (a : α) (l : List α) (h : 0 < (a :: l).length), (a :: l)[0] = a) ∧ (∀ {α : Type} (a : α) (l : List α) (i : Nat) (h : i + 1 < (a :: l).length), (a :: l)[i + 1] = l[i]'(by simpa using h)) := ⟨fun _ _ _ => by simp, fun _ _ _ => by simp, fun _ _ _ _ => by simp⟩
theorem Xr : (∀ (a : Act) (d : Tmp) (v : Value), a.put (some d) v = { a with tmps := a.tmps.setIfInBounds d v }) ∧ (∀ (a : Act) (v : Value), a.put none v = a) ∧ (∀ {α : Type} (l : List α) (i : Nat) (v : α), l.toArray.setIfInBounds i v = (l.set i v).toArray) ∧ (∀ {α : Type} (a b : α) (l : List α), (a :: l).set 0 b = b :: l) ∧ (∀ {α : Type} (a b : α) (l : List α) (n : Nat), (a :: l).set (n + 1) b = a :: l.set n b) := ⟨fun _ _ _ => rfl, fun _ _ => rfl, fun _ _ _ => by simp, fun _ _ _ => rfl, fun _ _ _ _ => rfl⟩
theorem Xs : (∀ {α : Type} (l : List α), l.toArray.size = l.length) ∧ (∀ {α : Type} (a : α) (l : List α), (a :: l).length = l.length + 1) ∧ (∀ {α : Type}, ([] : List α).length = 0) := ⟨fun _ => rfl, fun _ _ => rfl, rfl⟩
theorem Xg {α : Type} {l : List α} {i : Nat} {d : α} (h : i < l.length) : l.getD i d = (some l[i]).getD d := by rw [List.getD_eq_getElem?_getD, List.getElem?_eq_getElem h]
theorem Xd {w : World} {o : Obj} : Below w.heap.size w (w.alloc o) := (Below.refl _ _).alloc (Nat.le_refl _) _
theorem Xn {w : World} {o p : Obj} : Below w.heap.size w ((w.alloc o).alloc p) := ((Below.refl _ _).alloc (Nat.le_refl _) _).alloc (by simp) _
abbrev Xw (w : World) (o : Nat) : Addr := ⟨w.heap.size, o, none⟩
abbrev Xe (b n c : Nat) : Value := .slice (some ⟨b, 0, none⟩) n c
abbrev Xv : Value := .slice none 0 0
abbrev Xo : Value := .string ⟨#[]⟩
theorem Xz {w w' : World} {c : Array Value} {t : TypeId} (h : w.alloc (.cells c t) = w') (i : Nat) (v : Value) (e : c[i]? = some v) : w'.cell? ⟨w.heap.size, i, none⟩ = some v := by subst h; exact (World.cell?_alloc_new w c t i).trans e
theorem Xy {w w' : World} {o : Obj} {c : Array Value} {t : TypeId} (h : (w.alloc o).alloc (.cells c t) = w') (i : Nat) (v : Value) (e : c[i]? = some v) : w'.cell? ⟨w.heap.size + 1, i, none⟩ = some v := by have := Xz h i v e; rwa [World.size_alloc] at this
theorem Xx {w w' : World} {o : Obj} {c : Array Value} {t : TypeId} (h : (w.alloc (.cells c t)).alloc o = w') (i : Nat) (v : Value) (e : c[i]? = some v) : w'.cell? ⟨w.heap.size, i, none⟩ = some v := by subst h; exact ((Xd (w := w.alloc (.cells c t)) (o := o)).cell (p := ⟨w.heap.size, i, none⟩) (by simp)).trans (Xz rfl i v e)
theorem Xt {w w' : World} {o : Obj} (h : w.alloc o = w') : Below w.heap.size w w' := by subst h; exact Xd
theorem Xu {w w' : World} {o p : Obj} (h : (w.alloc o).alloc p = w') : Below w.heap.size w w' := by subst h; exact Xn
theorem X1 {w w' : World} {o : Obj} (h : w.alloc o = w') : w'.heap.size = w.heap.size + 1 := by subst h; simp
theorem X2 {w w' : World} {o p : Obj} (h : (w.alloc o).alloc p = w') : w'.heap.size = w.heap.size + 2 := by subst h; simp
theorem X0 {n : Nat} : n ≤ n := Nat.le_refl n
theorem X3 {n : Nat} : 0 ≤ n := Nat.zero_le n
theorem X4 {B : Nat} {w : World} : Below B w w := Below.refl B w
theorem X5 {w : World} {a : Addr} {u : Value} {k : Nat} (h : k ≠ a.block) : (w.setCell a u).heap[k]? = w.heap[k]? := Below.heap_setCell w a u k h
theorem X6 {w : World} {a : Addr} {v : Value} (h : w.cell? a = some v) : a.block < w.heap.size := World.block_lt_of_cell? w a h
abbrev Xa0 := @List.getElem_mem
abbrev Xa1 := @List.getElem?_eq_getElem
abbrev Xa2 := @List.mem_singleton
abbrev Xa3 := @List.getElem_of_mem
abbrev Xa4 := @List.mem_append
abbrev Xa5 := @List.mem_map
abbrev Xa6 := @List.mem_range
abbrev Xa7 := @List.mem_filter
abbrev Xa8 := @List.mem_cons_of_mem
abbrev Xa9 := @List.mem_flatMap
abbrev Xb0 := @List.mem_of_getElem?
abbrev Xb1 := @List.pairwise_iff_getElem
abbrev Xb2 := @List.mem_or_eq_of_mem_set
abbrev Xb3 := @World.cell?_of_block
abbrev Xb4 := @Nat.lt_of_lt_of_le
abbrev Xb5 := @Option.some.inj
abbrev Xb6 := @Nat.le_trans
abbrev Xb7 := @Nat.not_lt_zero
abbrev Xb8 := @Prod.mk.inj
abbrev Xb9 := @World.cell?_setCell_other
abbrev Xc0 := @World.ownsRow_nil
abbrev Xc1 := @Below.heap_alloc
abbrev Xc2 := @World.cell?_alloc_lt
abbrev Xc3 := @decide_eq_false
abbrev Xc4 := @decide_eq_true
abbrev Xc5 := @heap_alloc_new
abbrev Xc6 := @Nat.lt_trans
abbrev Xc7 := @Nat.le_of_lt
abbrev Xc8 := @Nat.lt_irrefl
abbrev Xc9 := @World.cell?_setCell_same
abbrev Xd0 := @Array.getElem?_eq_some_iff
abbrev Xd1 := @World.frozen?_of_block
abbrev Xd2 := @Nat.lt_succ_self
abbrev Xd3 := @List.getElem?_eq_some_iff
abbrev Xd4 := @World.frozen?_setCell
abbrev Xd5 := @beq_eq_false_iff_ne
def QcA (b:Region.Mode) (a:Array Oper) (j i:Nat):Bool :=
 match a[j]? with|some oj=>oj.after.any (λe=>Region.binds b e&&e.on==i)|none=>false
def Qgs (b:Region.Mode) (a:Array Oper) (j:Nat):Bool :=
 (List.range a.size).all λi=>i==j||QcA b a j i||(List.range a.size).any λk=>QcA b a j k&&(QcA b a k i||(List.range a.size).any λm=>QcA b a k m&&QcA b a m i)
def Qi0 (c:Region.Mode) (a:Array Oper) (b:Array Bool):Bool :=
 (List.range a.size).all λj=>!(b.getD j false)||(List.range a.size).all λi=>!(QcA c a j i)||b.getD i false
theorem QiP {d:Region.Mode} {c:Array Oper} {f:Oper} (b:QcA d c j i=true) (g:c[j]?=some f):∃ e,e ∈ f.after/\Region.binds d e=true/\e.on=i:=by unfold QcA at b;simp only [g] at b;obtain ⟨e,h,a⟩:=Array.any_eq_true'.1 b;simp only [Bool.and_eq_true,beq_iff_eq] at a;exact ⟨e,h,a.1,a.2⟩
def QhO (c:Region.Mode) (b:Array Oper) (a:Array Bool):Prop:=∀ j i,i<b.size->a.getD j false=true->QcA c b j i=true->a.getD i false=true
theorem Qp9 {g:Region.Mode} {a:Array Oper} {f:Array Bool} (m:Qi0 g a f=true):QhO g a f:=by
 intro j i k l b;have c:j<a.size:=by
  by_cases c:j<a.size
  ·exact c
  unfold QcA at b;rw [Array.getElem?_eq_none (Nat.le_of_not_lt c)] at b;cases b
 have d:=all_eq_true.1 m j (mem_range.2 c);rw [l] at d;simp only [Bool.not_true,Bool.false_or] at d;have h:=all_eq_true.1 d i (mem_range.2 k);rw [b] at h;simpa using h
def Qbp (P:Program) (c:Region.Mode) (b:Array Oper) (d:Exit->Act->World->Prop) (S:World->Prop):Nat->Array Bool->Act->World->Prop
 | 0,listed,a,w=>Region.ready c b listed=[]/\d .normal a w
 | fuel+1,listed,a,w =>
  (Region.ready c b listed=[]->d .normal a w) /\
  ∀ i ∈ Region.ready c b listed,wpOp P b d i (λf w'=>(Qgs c b i=true \/ S w')/\Qbp P c b d S fuel (listed.setIfInBounds i true) f w') a w
section
variable {P : Program} {md : Region.Mode} {ops : Array Oper} {Q : Exit → Act → World → Prop} {S : World → Prop}
theorem Qny:∀ (b:Nat) (c:Array Bool) (a:Act) (w:World),Qbp P md ops Q S b c a w->wpAny P md ops Q b c a w| 0,_,_,_,h=>h| b+1,_,_,_,h=>⟨h.1,λi d=>wpOp_mono (λf w' g=>Qny b _ f w' g.2) (h.2 i d)⟩
theorem Qsi {g:Oper} (E:ops[i]?=some g) (N:∀ (j:Nat) (a0:Oper) cs b,ops[j]?=some a0->a0.op≠.select cs b) (a9:∀ c a w,Q (.panic c) (a.put g.dst v) w->Q (.panic c) a w) : ∀ (t:Nat) (d:Array Bool) (a:Act) (w:World), (∀ j h,ops[j]?=some h->j≠i->d.getD j true=false->(∀ e ∈ h.after,Region.binds md e=true->e.on≠i)->g.apart ops h=true) -> QhO md ops d->i ∈ Region.ready md ops d->YieldsIf P ops S g v a->S w -> Qbp P md ops Q S t (d.setIfInBounds i true) (a.put g.dst v) w->Qbp P md ops Q S (t+1) d a w:=by
 have J:i<ops.size:=(Array.getElem?_eq_some_iff.1 E).1;intro t;induction t with
 | zero =>
  intro d a w _ _ q F x C;refine ⟨λL=>absurd (L▸q) not_mem_nil,λj G=>?_⟩;by_cases f:j=i
  ·subst f;exact F.wpOp E x ⟨.inr x,C⟩
  exact absurd (C.1▸ready_mono G f) not_mem_nil
 | succ t ih =>
  intro d a w M D q F x C;refine ⟨λL=>absurd (L▸q) not_mem_nil,λj G=>?_⟩;by_cases f:j=i
  ·subst f;exact F.wpOp E x ⟨.inr x,C⟩
  have aa:=C.2 j (ready_mono G f);obtain ⟨O,h,p,I⟩:=mem_ready.1 G;have R:∀ e ∈ h.after,Region.binds md e=true->e.on≠i:=by
   intro e l n a4;have o:=I e l n;have y:=(mem_ready.1 q).1;rw [a4] at o;by_cases z:i<d.size
   ·simp [z] at y o;rw [y] at o;cases o
   simp [Array.getElem?_eq_none (Nat.le_of_not_lt z)] at o
  have a2:Qgs md ops j=false:=by
   cases ab:Qgs md ops j with
   | false=>rfl
   | true =>
    have r:=all_eq_true.1 ab i (mem_range.2 J);simp only [Bool.or_eq_true,beq_iff_eq] at r;rcases r with (e|e)|e
    ·exact absurd e (Ne.symm f)
    ·obtain ⟨e,l,n,u⟩:=QiP e p;exact absurd u (R e l n)
    obtain ⟨k,_,e⟩:=any_eq_true.1 e;simp only [Bool.and_eq_true] at e;obtain ⟨ac,l,n,u⟩:=QiP e.1 p;have A:=I ac l n;rw [u] at A;have H:d.getD i false=true:=by
     have s:=e.2;simp only [Bool.or_eq_true] at s;rcases s with s|s
     ·exact D k i J A s
     obtain ⟨m,ad,K⟩:=any_eq_true.1 s;simp only [Bool.and_eq_true] at K;exact D m i J (D k m (mem_range.1 ad) A K.1) K.2
    have y:=(mem_ready.1 q).1;by_cases z:i<d.size
    ·simp [z] at y H;rw [y] at H;cases H
    simp [Array.getElem?_eq_none (Nat.le_of_not_lt z)] at H
  have o:=wpOp_putIf p (M j h p f O R) (λcs b=>N i g cs b E) (λcs b=>N j h cs b p) a9 F aa;have a1:∀ k B,ops[k]?=some B->k≠i->(d.setIfInBounds j true).getD k true=false -> (∀ e ∈ B.after,Region.binds md e=true->e.on≠i)->g.apart ops B=true:=by
   intro k B A a5 a6 a7;refine M k B A a5 ?_ a7;by_cases T:j=k
   ·subst T;exact O
   rwa [getD_set_ne true T] at a6
  refine wpOp_mono (λae w' r=>?_) o;have U:S w':=by
   rcases r.2.1 with e|e
   ·rw [a2] at e;cases e
   exact e
  have a3:QhO md ops (d.setIfInBounds j true):=by
   intro Y af a8 V W;by_cases X:j=Y
   ·subst X;obtain ⟨e,l,n,u⟩:=QiP W p;exact u▸getD_set_true (I e l n)
   rw [getD_set_ne false X] at V;exact getD_set_true (D Y af a8 V W)
  refine ⟨.inr U,ih (d.setIfInBounds j true) ae w' a1 a3 (ready_mono q (Ne.symm f)) r.1 U ?_⟩;rw [Array.setIfInBounds_comm _ _ f];exact r.2.2
theorem QfE {d:Oper} {f:Nat} {b:Array Bool} {a:Act} (g:ops[i]?=some d) (h:Region.noSelect ops=true) (j:Region.free md ops b i=true) (k:(Region.ready md ops b).contains i=true) (l:Qi0 md ops b=true) (m:∀ c a w,Q (.panic c) (a.put d.dst v) w->Q (.panic c) a w) (n:YieldsIf P ops S d v a) (o:S w) (p:Qbp P md ops Q S f (b.setIfInBounds i true) (a.put d.dst v) w):Qbp P md ops Q S (f+1) b a w := Qsi g (Region.noSelect_spec h) m f b a w (Region.free_spec g j) (Qp9 l) (by simpa using k) n o p
theorem QD {c:Oper} {d:Nat} {b:Array Bool} {a:Act} (h:ops[i]?=some c) (f:Region.ready md ops b=[i]) (k:Region.wanted c (yielded ops a.tmps)=true) (n:c.wp P a w (λl w'=>(Qgs md ops i=true \/ S w')/\Qbp P md ops Q S d (b.setIfInBounds i true) l w') Q):Qbp P md ops Q S (d+1) b a w:=by refine ⟨λm=>absurd (f.symm.trans m) (cons_ne_nil _ _),λj g=>?_⟩;rw [f] at g;have:=mem_singleton.1 g;subst this;unfold Go.wpOp;simp only [h,k,if_true];exact .inl n
theorem Qbe (i:Nat) {c:Oper} {d:Nat} {b:Array Bool} {a:Act} (k:c.wp P a w (λf w'=>(Qgs md ops i=true \/ S w')/\Qbp P md ops Q S d (b.setIfInBounds i true) f w') Q) (g:ops[i]?=some c:=by exact rfl) (h:Region.ready md ops b=[i]:=by kernel_rfl) (j:Region.wanted c (yielded ops a.tmps)=true:=by rfl):Qbp P md ops Q S (d+1) b a w := QD g h j k
theorem ZP {b:Array Bool} {a:Act} (c:Region.ready md ops b=[]) (d:Q .normal a w):∀ f,Qbp P md ops Q S f b a w| 0=>⟨c,d⟩| _+1=>⟨λ_=>d,λ_ g=>absurd (c▸g) not_mem_nil⟩
theorem ZU {id:Nat} {a:Act} (b:P.follows .mixedOrders=true) (c:Qbp P .any ops Q S ops.size (Array.replicate ops.size false) a w.drew):(Code.region id ops true).wp P Q a w := wp_region_any b (Qny _ _ _ _ c)
end
def Qf9 (c:Region.Mode) (a:Array Oper) (b:Array Bool) (i:Nat):Bool:=Region.noSelect a&&Region.free c a b i&&(Region.ready c a b).contains i&&Qi0 c a b
def Qju (P:Program) (h:Region.Mode) (b:Array Oper) (f:Exit->Act->World->Prop) (S:World->Prop) (j:Nat) (g:Array Bool) (a:Act) (w:World) (i:Nat):Prop :=
 ∃ d v,b[i]?=some d/\Qf9 h b g i=true/\(∀ c a w,f (.panic c) (a.put d.dst v) w->f (.panic c) a w)/\YieldsIf P b S d v a/\S w/\Qbp P h b f S j (g.setIfInBounds i true) (a.put d.dst v) w
theorem ZH {P:Program} {g:Region.Mode} {d:Array Oper} {S:World->Prop} {c:Nat} {f:Array Bool} {a:Act} (n:∀ i,d.size-(c+1)=i->Qju P g d Q S c f a w i):Qbp P g d Q S (c+1) f a w:=by obtain ⟨o,v,h,b,j,k,l,m⟩:=n _ rfl;unfold Qf9 at b;simp only [Bool.and_eq_true] at b;exact QfE h b.1.1.1 b.1.1.2 b.1.2 b.2 j k l m
theorem J9 {P:Program} {g:Region.Mode} {f:Array Oper} {S:World->Prop} {d:Nat} {c:Array Bool} {a:Act} i (n:Qju P g f Q S d c a w i):Qbp P g f Q S (d+1) c a w:=by obtain ⟨o,v,h,b,j,k,l,m⟩:=n;unfold Qf9 at b;simp only [Bool.and_eq_true] at b;exact QfE h b.1.1.1 b.1.1.2 b.1.2 b.2 j k l m
theorem QZ {P:Program} {g:Region.Mode} {d:Array Oper} {S:World->Prop} {h:Nat} {f:Array Bool} {a:Act} {b:Oper} (j:d[i]?=some b) (k:Qf9 g d f i=true) (l:∀ c a w,Q (.panic c) (a.put b.dst v) w->Q (.panic c) a w) (m:Region.wanted b (yielded d a.tmps)=true) (n:∀ w,S w->(execOp a.eval b).run P w=.ok (.value v) w) (o:S w) (p:Qbp P g d Q S h (f.setIfInBounds i true) (a.put b.dst v) w):Qju P g d Q S h f a w i := ⟨b,v,j,k,l,.inl ⟨m,n⟩,o,p⟩
theorem Qbh {P:Program} {g:Region.Mode} {b:Array Oper} {S:World->Prop} {j:Nat} {f:Array Bool} {a:Act} {d:Oper} (k:∀ w,S w->(execOp a.eval d).run P w=.ok (.value v) w) (l:S w) (h:Qbp P g b Q S j (f.setIfInBounds i true) (a.put d.dst v) w) (m:b[i]?=some d:=by exact rfl) (n:Qf9 g b f i=true:=by kernel_rfl) (o:∀ c a w,Q (.panic c) (a.put d.dst v) w->Q (.panic c) a w:=by exact λ_ _ _ h=>h) (p:Region.wanted d (yielded b a.tmps)=true:=by rfl):Qju P g b Q S j f a w i := QZ m n o p k l h
theorem Qbz {P:Program} {h:Region.Mode} {b:Array Oper} {S:World->Prop} {g:Nat} {f:Array Bool} {a:Act} {d:Oper} (l:∀ w,S w->(execOp a.eval d).run P w=.ok (.value v) w) (m:S w) (k:Qbp P h b Q S g (f.setIfInBounds i true) (a.put d.dst v) w) (n:b.size-(g+1)=i:=by simp only [List.size_toArray,List.length_cons,List.length_nil,Nat.reduceAdd,Nat.reduceSub];exact rfl) (o:b[i]?=some d:=by exact rfl) (p:Qf9 h b f i=true:=by kernel_rfl) (q:∀ c a w,Q (.panic c) (a.put d.dst v) w->Q (.panic c) a w:=by exact λ_ _ _ k=>k) (r:Region.wanted d (yielded b a.tmps)=true:=by rfl):Qbp P h b Q S (g+1) f a w := ZH λj e=>(e.symm.trans n:j=i)▸QZ o p q r l m k
theorem Qns (s:ByteArray) (w:World) (a:s.size<=maxLen) : Xl 99 #[.string s] w λe w'=>e=.returned (.bool (ZD s))/\w'=w:=by unfold maxLen at a;go_enter Tryz.func99,Tryz.ntmps99;go_wp2;go_ret;exact ⟨Zm (by unfold ZD;simp;omega),rfl⟩
theorem Qpv (s:ByteArray) (w:World) (m:s.size<=maxLen) : Xl 97 #[.string s] w λe w'=>e=.returned (.bool (QK s))/\w'=w:=by
 unfold maxLen at m;by_cases c:s.size<1 \/ 8<s.size
 ·have n:Hid (QK s=false):=QpK c;rcases c with f|f;all_goals go_enter Tryz.func97,Tryz.ntmps97;go_wp2;go_ret;exact ⟨Zm n.out.symm,rfl⟩
 have o:1<=s.size:=by omega
 have p:s.size<=8:=by omega
 clear c;go_enter Tryz.func97,Tryz.ntmps97;go_wp2;go_loop [3,14] (λ_ i=>∃ k:Nat,k<=s.size/\i=Xi k/\Hid (∀ j,(d:j<s.size)->j<k->Qas s[j]=true)) (λ_ i=>s.size-(intOf i).toNat);·exact ⟨0,X3,rfl,λj _ f=>absurd f (Xb7 _)⟩
 case round =>
  obtain ⟨k,u,rfl,b⟩:=hrel;by_cases g:k<s.size
  ·by_cases a:Qas s[k]=true
   ·obtain ⟨h,l⟩:=QmP a;have q:Hid (∀ j,(d:j<s.size)->j<k+1->Qas s[j]=true):=Qky g b.out a;clear b a;go_wp2;go_round;·exact ⟨k+1,by omega,by go_num,q⟩
    simp [intOf];omega
   have r:Hid (QK s=false):=Qj4 g (by simpa using a);have t:=QkQ a;clear b a;rcases t with h|⟨h,l⟩;all_goals go_wp2;go_ret;exact ⟨Zm r.out.symm,rfl⟩
  go_wp2;go_ret;exact ⟨Zm (QnD o p λj d=>b.out j d (by omega)).symm,rfl⟩
theorem QvH (s:ByteArray) (w:World) (l:s.size<=maxLen) : Xl 45 #[.string s] w λe w'=>e=.returned (.bool (QK s))/\w'=w:=by
 unfold maxLen at l;go_enter Tryz.func45,Tryz.ntmps45;go_wp2;go_loop [3] (λi=>∃ k:Nat,k<=s.size/\i=Xi k/\Hid (∀ j,(d:j<s.size)->j<k->Qas s[j]=true)) (λi=>s.size-(intOf i).toNat);·exact ⟨0,X3,rfl,λj _ q=>absurd q (Xb7 _)⟩
 case round =>
  obtain ⟨k,r,rfl,c⟩:=hrel;by_cases f:k<s.size
  ·by_cases a:Qas s[k]=true
   ·obtain ⟨g,h⟩:=QmP a;have m:Hid (∀ j,(d:j<s.size)->j<k+1->Qas s[j]=true):=Qky f c.out a;clear c a;go_wp2;go_round;·exact ⟨k+1,by omega,by go_num,m⟩
    simp [intOf];omega
   have b:Hid (QK s=false):=Qj4 f (by simpa using a);have n:=QkQ a;clear c a;rcases n with g|⟨g,h⟩;all_goals go_wp2;go_ret;exact ⟨Zm b.out.symm,rfl⟩
  by_cases o:1<=s.size
  ·by_cases p:s.size<=8
   ·go_wp2;go_ret;exact ⟨Zm (by rw [QnD o p λj d=>c.out j d (by omega)];simp;omega),rfl⟩
   have b:Hid (QK s=false):=Qko (by omega);go_wp2;go_ret;exact ⟨Zm (by rw [b.out];simp;omega),rfl⟩
  have b:Hid (QK s=false):=Qjo (by omega);go_wp2;go_ret;exact ⟨Zm b.out.symm,rfl⟩
theorem Qbn (s:ByteArray) (b:Bool) (c:QK s=b) (a:s.size<=maxLen) (w:World) : Xl 97 #[.string s] w λe w'=>e=.returned (.bool b)/\w'=w:=by subst c;exact Qpv s w a
theorem QcU (s:ByteArray) (b:Bool) (c:ZD s=b) (a:s.size<=maxLen) (w:World) : Xl 99 #[.string s] w λe w'=>e=.returned (.bool b)/\w'=w:=by subst c;exact Qns s w a
theorem Qcx (s:ByteArray) (b:Bool) (c:QK s=b) (a:s.size<=maxLen) (w:World) : Xl 45 #[.string s] w λe w'=>e=.returned (.bool b)/\w'=w:=by subst c;exact QvH s w a
def JM (a d:Int):Bool:=decide (1<=d)&&decide (d<=a+1)&&decide (d<12)
theorem Qs7 {a:Int} (b:d<1):JM a d=false:=by unfold JM;rw [decide_eq_false (by omega)];rfl
theorem QpA {a:Int} (b:a+1<d):JM a d=false:=by unfold JM;rw [decide_eq_false (p:=d<=a+1) (by omega)];simp
theorem QpZ {a:Int} (b:12<=d):JM a d=false:=by unfold JM;rw [decide_eq_false (p:=d<12) (by omega)];simp
theorem QlI {a:Int} (b:1<=d) (c:d<=a+1) (f:d<12):JM a d=true:=by unfold JM;rw [decide_eq_true b,decide_eq_true c,decide_eq_true f];rfl
theorem QwC (a d:Int) (w:World) (h:0<=a) (i:a<=11) : Xl 78 #[Xi a,Xi d] w λe w'=>e=.returned (.bool (JM a d))/\w'=w:=by
 by_cases c:1<=d
 ·by_cases f:d<=a+1
  ·by_cases g:d<12
   ·go_enter Tryz.func78,Tryz.ntmps78;go_wp2;go_ret;exact ⟨Zm (QlI c f g).symm,rfl⟩
   have b:Hid (JM a d=false):=QpZ (by omega);go_enter Tryz.func78,Tryz.ntmps78;go_wp2;go_ret;exact ⟨Zm b.out.symm,rfl⟩
  have b:Hid (JM a d=false):=QpA (by omega);go_enter Tryz.func78,Tryz.ntmps78;go_wp2;go_ret;exact ⟨Zm b.out.symm,rfl⟩
 have b:Hid (JM a d=false):=Qs7 (by omega);go_enter Tryz.func78,Tryz.ntmps78;go_wp2;go_ret;exact ⟨Zm b.out.symm,rfl⟩
theorem QfK (n:Int) (w:World) : Xl 14 #[Xi n] w λe w'=>e=.returned (Xi n)/\w'=w:=by go_enter Tryz.func14,Tryz.ntmps14;go_wp2;go_ret;exact ⟨rfl,rfl⟩
def Zn (w:World) (ao:Option Addr) (n:Nat) (nm vl:Nat->ByteArray):Prop :=
 ∀ j,j<n->∃ b a,ao=some (Xa b a)/\b<w.heap.size/\w.cell? (Xa b (a+j*2))=some (.string (nm j))/\w.cell? (Xa b (a+j*2+1))=some (.string (vl j))/\(nm j).size<=maxLen/\(vl j).size<=maxLen
theorem Qt8 ao (n c:Nat) nm vl w (F:n<=maxLen) (u:Zn w ao n nm vl) : Xl 98 #[.slice ao n c] w λe w'=>e=.returned (.bool (JX n nm vl))/\Xb w w':=by
 unfold maxLen at F;by_cases v:5<n
 ·have G:Hid (JX n nm vl=false):=Qma v;clear u;go_enter Tryz.func98,Tryz.ntmps98;go_wp2;go_ret;exact ⟨Zm G.out.symm,X4⟩
 have v:n<=5:=by omega
 have y:Hid (Zn w ao n nm vl):=u;clear u;go_enter Tryz.func98,Tryz.ntmps98;go_wp2;go_loopw [3,4,10] (λ_ _ i wr=>∃ k:Nat,k<=n/\i=Xi k/\Hid (∀ j,j<k->JU nm vl j=true)/\Xb w wr) (λ_ _ i _=>n-(intOf i).toNat);·exact ⟨0,X3,rfl,λj K=>absurd K (Xb7 _),X4⟩
 case round =>
  obtain ⟨k,M,rfl,g,h⟩:=hrel;by_cases q:k<n
  ·obtain ⟨b,t,rfl,r,z,A,o,s⟩:=y.out k q;have H:=(Xh h b (t+k*2) r).trans z;have I:=(Xh h b (t+k*2+1) r).trans A;clear z A;have m:Xb w ((wr.alloc (.cells #[.string (nm k),.string (vl k)] 72))):=h.alloc h.size _;by_cases a:QK (nm k)=true
   ·by_cases d:ZD (vl k)=true
    ·by_cases J:k=0
     ·subst J;simp only [Nat.zero_mul,Nat.add_zero] at H I;have x:Hid (∀ j,j<0+1->JU nm vl j=true):=Qdu g.out (QjE a d);have f:=Qa a;have l:=Qa d;clear a d g;go_wp2;go_big_quiet (first|(go_at_call 97;exact Calls.quiet_of_same (Qbn _ true (Qb f) o _))|(go_at_call 99;exact Calls.quiet_of_same (QcU _ true (Qb l) s _)));go_wp2;go_roundw;·exact ⟨1,by omega,by go_num,x,Qv m _⟩
      simp [intOf];omega
     obtain ⟨N,O,e',_,B,_,_,_⟩:=y.out (k-1) (by omega);cases e';have L:0<k:=by omega
     have q0:∀ D,(wr.alloc D).cell? (Xa b (t+(k-1)*2))=some (.string (nm (k-1))):=λD => (Xc2 _ _ _ (Xb4 r h.size)).trans ((Xh h b (t+(k-1)*2) r).trans B);clear B;cases C:Op.bytesLess (nm (k-1)).toList (nm k).toList with
     | true =>
      have x:Hid (∀ j,j<k+1->JU nm vl j=true):=Qdu g.out (Qlc a d C);have f:=Qa a;have l:=Qa d;clear a d g;go_wp2;go_big_quiet (first|(go_at_call 97;exact Calls.quiet_of_same (Qbn _ true (Qb f) o _))|(go_at_call 99;exact Calls.quiet_of_same (QcU _ true (Qb l) s _)));go_wp2;go_roundw;·exact ⟨k+1,by omega,by go_num,x,Qv m _⟩
      simp [intOf];omega
     | false =>have p:Hid (JX n nm vl=false):=QeI q (QmR (by omega) C);have f:=Qa a;have l:=Qa d;clear a d g;go_wp2;go_big_quiet (first|(go_at_call 97;exact Calls.quiet_of_same (Qbn _ true (Qb f) o _))|(go_at_call 99;exact Calls.quiet_of_same (QcU _ true (Qb l) s _)));go_wp2;go_ret;exact ⟨Zm p.out.symm,Qv m _⟩
    have p:Hid (JX n nm vl=false):=QeI q (Qnx (by simpa using d));have f:=Qa a;have l:Hid (ZD (vl k)=false):=Qa (by simpa using d);clear a d g;go_wp2;go_big_quiet (first|(go_at_call 97;exact Calls.quiet_of_same (Qbn _ true (Qb f) o _))|(go_at_call 99;exact Calls.quiet_of_same (QcU _ false (Qb l) s _)));go_wp2;go_ret;exact ⟨Zm p.out.symm,Qv m _⟩
   have p:Hid (JX n nm vl=false):=QeI q (Qmx (by simpa using a));have f:Hid (QK (nm k)=false):=Qa (by simpa using a);clear a g;go_wp2;go_quiet ((go_at_call 97;exact Calls.quiet_of_same (Qbn _ false (Qb f) o _)));go_wp2;go_ret;exact ⟨Zm p.out.symm,Qv m _⟩
  have E:Hid (k=n):=show k=n by omega
  go_wp2;go_ret;exact ⟨Zm (QkD v λj P=>g.out j (by have:=E.out;omega)).symm,h⟩
structure Qd where
 d:Int
 t:ByteArray
 k:Int
 ao:Option Addr
 an:Nat
 ac:Nat
 x:ByteArray
 nm:Nat->ByteArray
 vl:Nat->ByteArray
def Qd.val (n:Qd):Value:=.agg #[Xi n.d,.string n.t,Xi n.k,.slice n.ao n.an n.ac,.string n.x]
structure Qd.Ok (w:World) (n:Qd):Prop where
 an:n.an<=maxLen
 t:n.t.size<=maxLen
 x:n.x.size<=maxLen
 at':Zn w n.ao n.an n.nm n.vl
theorem Zn.below {nm:Nat->ByteArray} (k:Zn w ao n nm vl) (c:Xb w w'):Zn w' ao n nm vl:=by intro j d;obtain ⟨b,l,e,a,f,g,h,i⟩:=k j d;exact ⟨b,l,e,Xb4 a c.size,(Xh c b _ a).trans f,(Xh c b _ a).trans g,h,i⟩
theorem Qd.Ok.below {w w':World} {n:Qd} (a:n.Ok w) (b:Xb w w'):n.Ok w':=⟨a.an,a.t,a.x,a.at'.below b⟩
def Ze (n:Qd):Bool:=QK n.t&&n.x.toList.isEmpty&&decide (0<=n.k)&&JX n.an n.nm n.vl
def Zx (n:Qd):Bool:=n.t.toList.isEmpty&&decide (n.k=0)&&decide (n.an=0)&&ZD n.x
theorem Qtn (n:Qd) (b:Bool) (a:JX n.an n.nm n.vl=b) (w:World) (c:n.an<=maxLen) (d:Zn w n.ao n.an n.nm n.vl) : Xl 98 #[.slice n.ao n.an n.ac] w λe w'=>e=.returned (.bool b)/\Xb w w':=by subst a;exact Qt8 _ _ _ _ _ _ c d
theorem Qgi (n:Qd) (w:World) (m:n.Ok w) : Xl 77 #[n.val] w λe w'=>e=.returned (.bool (Ze n))/\Xb w w':=by
 have d:∀ c,Xb w (w.alloc c):=λc=>X4.alloc X0 c;have p:∀ c,Hid (Zn (w.alloc c) n.ao n.an n.nm n.vl):=λc=>m.at'.below (d c);obtain ⟨q,g,r,_⟩:=m;unfold Qd.val;cases a:QK n.t with
 | false =>have b:Hid (Ze n=false):=Qa (by unfold Ze;rw [a];rfl);have f:=Qa a;clear a;go_enter Tryz.func77,Tryz.ntmps77;go_wp2_with (go_at_call 97;refine (Qbn _ false (Qb f) g _).mono ?_;rintro e w' ⟨rfl,rfl⟩);go_ret;exact ⟨Zm b.out.symm,d _⟩
 | true =>
  have f:=Qa a;cases h:n.x.toList.isEmpty with
  | false =>have b:Hid (Ze n=false):=Qa (by unfold Ze;rw [h];simp);clear a;go_enter Tryz.func77,Tryz.ntmps77;go_wp2_with (go_at_call 97;refine (Qbn _ true (Qb f) g _).mono ?_;rintro e w' ⟨rfl,rfl⟩);go_ret;exact ⟨Zm b.out.symm,d _⟩
  | true =>
   by_cases i:0<=n.k
   ·cases j:JX n.an n.nm n.vl;all_goals have b:Hid (Ze n=JX n.an n.nm n.vl):=Qa (by unfold Ze;rw [a,h,decide_eq_true i];rfl);have l:=Qa j;clear a j;go_enter Tryz.func77,Tryz.ntmps77;go_wp2_with (first|(go_at_call 97;refine (Qbn _ true (Qb f) g _).mono ?_;rintro e w' ⟨rfl,rfl⟩)|(go_at_call 98;refine (Qtn n _ (Qb l) _ q (Qb (p _))).mono ?_;rintro e w2 ⟨rfl,o⟩));go_ret;exact ⟨Zm (by rw [b.out,l.out]),(d _).trans (o.mono (by simp))⟩
   have b:Hid (Ze n=false):=Qa (by unfold Ze;rw [decide_eq_false i];simp);clear a;go_enter Tryz.func77,Tryz.ntmps77;go_wp2_with (go_at_call 97;refine (Qbn _ true (Qb f) g _).mono ?_;rintro e w' ⟨rfl,rfl⟩);go_ret;exact ⟨Zm b.out.symm,d _⟩
theorem Qjt (n:Qd) (w:World) (l:n.Ok w) : Xl 79 #[n.val] w λe w'=>e=.returned (.bool (Zx n))/\Xb w w':=by
 have d:∀ f,Xb w (w.alloc f):=λf=>X4.alloc X0 f;obtain ⟨m,o,i,_⟩:=l;unfold Qd.val;cases g:n.t.toList.isEmpty with
 | false =>have b:Hid (Zx n=false):=Qa (by unfold Zx;rw [g];simp);go_enter Tryz.func79,Tryz.ntmps79;go_wp2;go_ret;exact ⟨Zm b.out.symm,d _⟩
 | true =>
  by_cases a:n.k=0
  ·by_cases c:n.an=0
   ·have b:Hid (Zx n=ZD n.x):=Qa (by unfold Zx;rw [g,decide_eq_true a,decide_eq_true c];rfl);have h:(n.k==0)=true:=by simp [a]
    have j:((n.an:Int)==0)=true:=by simp [c]
    clear a c;go_enter Tryz.func79,Tryz.ntmps79;go_wp2_with (go_at_call 99;refine (Qns _ _ i).mono ?_;rintro e w' ⟨rfl,rfl⟩);go_ret;exact ⟨Zm (by rw [b.out]),d _⟩
   have b:Hid (Zx n=false):=Qa (by unfold Zx;rw [decide_eq_false c];simp);have h:(n.k==0)=true:=by simp [a]
   have j:((n.an:Int)==0)=false:=by simp;omega
   clear a c;go_enter Tryz.func79,Tryz.ntmps79;go_wp2;go_ret;exact ⟨Zm b.out.symm,d _⟩
  have b:Hid (Zx n=false):=Qa (by unfold Zx;rw [decide_eq_false a];simp);have h:(n.k==0)=false:=by simp [a]
  clear a;go_enter Tryz.func79,Tryz.ntmps79;go_wp2;go_ret;exact ⟨Zm b.out.symm,d _⟩
variable {L:Nat->Qd}
structure Qd8 (w:World) (b p:Nat) (n:Qd):Prop where
 c0:w.cell? (Xa b p)=some (Xi n.d)
 c1:w.cell? (Xa b (p+1))=some (.string n.t)
 c2:w.cell? (Xa b (p+2))=some (Xi n.k)
 c3:w.cell? (Xa b (p+3))=some (.slice n.ao n.an n.ac)
 c4:w.cell? (Xa b (p+4))=some (.string n.x)
 ok:n.Ok w
structure Qac (w:World) (b o n:Nat) (L:Nat->Qd):Prop where
 lt:b<w.heap.size
 node:∀ i,i<n->Qd8 w b (o+i*5) (L i)
theorem Qd8.below {w w':World} {b p:Nat} {n:Qd} (c:Qd8 w b p n) (d:b<w.heap.size) (a:Xb w w'):Qd8 w' b p n := ⟨(Xh a b _ d).trans c.c0,(Xh a b _ d).trans c.c1,(Xh a b _ d).trans c.c2,(Xh a b _ d).trans c.c3,(Xh a b _ d).trans c.c4,c.ok.below a⟩
theorem Qac.below {w w':World} {b d n:Nat} {L:Nat->Qd} (a:Qac w b d n L) (c:Xb w w'):Qac w' b d n L := ⟨Xb4 a.lt c.size,λi f=>(a.node i f).below a.lt c⟩
def Z4 (L:Nat->Qd) (i:Nat):Nat->Bool
 | 0=>false
 | j+1=>if (L j).d<(L i).d then !(L j).t.toList.isEmpty else if (L i).k≠0/\(L j).d=(L i).d/\(L j).k=(L i).k then false else Z4 L i j
theorem Qjq (a:(L j).d<(L i).d):Z4 L i (j+1)=!(L j).t.toList.isEmpty:=by rw [Z4,if_pos a]
theorem Qhd (f:¬ (L j).d<(L i).d) (a:(L i).k≠0) (b:(L j).d=(L i).d) (c:(L j).k=(L i).k):Z4 L i (j+1)=false:=by rw [Z4,if_neg f,if_pos ⟨a,b,c⟩]
theorem QeL (b:¬ (L j).d<(L i).d) (a:¬ ((L i).k≠0/\(L j).d=(L i).d/\(L j).k=(L i).k)):Z4 L i (j+1)=Z4 L i j:=by rw [Z4,if_neg b,if_neg a]
theorem Qm0 (b u n c:Nat) L (i:Nat) w (v:n<=maxLen) (y:i<n) (f:Qac w b u n L) : Xl 80 #[.slice (some (Xa b u)) n c,Xi i] w λe w'=>e=.returned (.bool (Z4 L i i))/\Xb w w':=by
 unfold maxLen at v;have C:=Qa f;have F:=f.lt;obtain ⟨G,H,I,J,K,_⟩:=f.node i y;clear f;go_enter Tryz.func80,Tryz.ntmps80;go_wp2;go_loopw [6] (λj wr=>∃ m q:Nat,m<=i/\j=Xi ((m:Int)-1)/\Hid (Z4 L i m=Z4 L i i)/\wr=(w.alloc (.cells #[Xi (L i).d,.string (L i).t,Xi (L i).k,.slice (L i).ao (L i).an (L i).ac,.string (L i).x] 33)).drewN q) (λj _=>(intOf j+1).toNat);·exact ⟨i,0,X0,rfl,rfl,rfl⟩
 case round =>
  obtain ⟨m,q,M,rfl,a,rfl⟩:=hrel;cases m with
  | zero =>go_wp2;go_ret;exact ⟨Zm a.out,Qv Xd _⟩
  | succ p =>
   have e:(((p+1:Nat):Int)-1)=p:=by omega
   rw [e];clear e;obtain ⟨N,O,P,_,_,_⟩:=C.out.node p (by omega);have D:b≠w.heap.size:=by omega
   have s:∀ q,Xb w ((w.alloc (.cells #[Xi (L i).d,.string (L i).t,Xi (L i).k,.slice (L i).ao (L i).an (L i).ac,.string (L i).x] 33)).drewN q):=λq=>Qv Xd _;by_cases g:(L p).d<(L i).d
   ·have h:=Qa (a.out.symm.trans (Qjq g));clear a;go_wp2;go_big_quiet (fail);go_wp2;go_ret;exact ⟨Zm h.out.symm,s _⟩
   have E:(L i).d<=(L p).d:=by omega
   by_cases l:(L i).k=0
   ·have h:=Qa ((QeL g (by intro f;exact f.1 l)).symm.trans a.out);have z:((L i).k !=0)=false:=by simp [l]
    clear a l g;go_wp2;go_big_quiet (fail);go_wp2;go_big_quiet (fail);go_wp2;go_roundw;·exact ⟨p,_,by omega,by go_num,h,rfl⟩
    simp [intOf]
   have z:((L i).k !=0)=true:=by simp [l]
   by_cases o:(L p).d=(L i).d
   ·have A:((L p).d==(L i).d)=true:=by simp [o]
    by_cases r:(L p).k=(L i).k
    ·have h:=Qa (a.out.symm.trans (Qhd g l o r));have B:((L p).k==(L i).k)=true:=by simp [r]
     clear a l g o r;go_wp2;go_big_quiet (fail);go_wp2;go_big_quiet (fail);go_wp2;go_ret;exact ⟨Zm h.out.symm,Qv (Qv (s _) _) _⟩
    have h:=Qa ((QeL g (by intro f;exact r f.2.2)).symm.trans a.out);have B:((L p).k==(L i).k)=false:=by simp [r]
    clear a l g o r;go_wp2;go_big_quiet (fail);go_wp2;go_big_quiet (fail);go_wp2;go_roundw;·exact ⟨p,_,by omega,by go_num,h,rfl⟩
    simp [intOf]
   have h:=Qa ((QeL g (by intro f;exact o f.2.1)).symm.trans a.out);have A:((L p).d==(L i).d)=false:=by simp [o]
   clear a l g o;go_wp2;go_big_quiet (fail);go_wp2;go_big_quiet (fail);go_wp2;go_roundw;·exact ⟨p,_,by omega,by go_num,h,rfl⟩
   simp [intOf]
structure Ext (w:World) where
 to:World
 below:Xb w to
theorem Qgb {P:Program} {id:Nat} {a:Act} {l:List Oper} (b:P.follows .mixedOrders=true) (c:Region.lexB .any l.toArray=true) (f:wpQuiet P l.toArray (λw'=>∃ g:Ext w,w'=g.to) (λd=>∀ w',(∃ g:Ext w,w'=g.to)->Q .normal d w') l a):(Code.region id l.toArray true).wp P Q a w := wp_region_quiet (C:=λw'=>∃ g:Ext w,w'=g.to) b c ⟨⟨w.drew,X4.drew⟩,rfl⟩ (by simpa using f)
theorem Qd9 {P:Program} {f:FuncId} {args:Array Value} {g:Ext w} (h:Calls P f args g.to λe w'=>e=.returned v/\Xb g.to w'):Calls P f args g.to λe a=>e=.returned v/\∃ b:Ext w,a=b.to := h.mono λ_ w' ⟨c,d⟩=>⟨c,⟨⟨w',g.below.trans (d.mono g.below.size)⟩,rfl⟩⟩
theorem Qgd {P:Program} {f:FuncId} {args:Array Value} {g:Ext w} (h:Calls P f args g.to λe w'=>e=.returned v/\w'=g.to):Calls P f args g.to λe a=>e=.returned v/\∃ b:Ext w,a=b.to := h.mono λ_ _ ⟨c,d⟩=>⟨c,⟨g,d⟩⟩
theorem QgX (n:Qd) (r:Bool) (a:Ze n=r) (w:World) (b:n.Ok w) : Xl 77 #[.agg #[Xi n.d,.string n.t,Xi n.k,.slice n.ao n.an n.ac,.string n.x]] w λe w'=>e=.returned (.bool r)/\Xb w w':=by subst a;exact Qgi n w b
theorem QlH (n:Qd) (r:Bool) (a:Zx n=r) (w:World) (b:n.Ok w) : Xl 79 #[.agg #[Xi n.d,.string n.t,Xi n.k,.slice n.ao n.an n.ac,.string n.x]] w λe w'=>e=.returned (.bool r)/\Xb w w':=by subst a;exact Qjt n w b
theorem QgF (a d:Int) (r:Bool) (b:JM a d=r) (w:World) (c:0<=a) (f:a<=11) : Xl 78 #[Xi a,Xi d] w λe w'=>e=.returned (.bool r)/\w'=w:=by subst b;exact QwC a d w c f
def QF (L:Nat->Qd) (i:Nat):Bool :=
 if i=0 then decide ((L 0).d=0)&&Ze (L 0) else JM (L (i-1)).d (L i).d&&(Ze (L i)||Zx (L i))&&Z4 L i i
theorem QoN (b h n c:Nat) L w (_hn:n<=maxLen) (k:0<n) (i:Qac w b h n L) : Xl 62 #[.slice (some (Xa b h)) n c,Xi 0] w λe w'=>e=.returned (.bool (QF L 0))/\Xb w w':=by
 obtain ⟨l,m,o,p,q,g⟩:=i.node 0 k;simp only [Nat.zero_mul,Nat.add_zero] at l m o p q;have r:=Qa g;clear i g;by_cases a:(L 0).d=0
 ·have f:Hid (QF L 0=Ze (L 0)):=Qa (by unfold QF;rw [if_pos rfl,decide_eq_true a];rfl);have s:((L 0).d==0)=true:=by simp [a]
  clear a;go_enter Tryz.func62,Tryz.ntmps62;go_wp2_with (go_at_call 77;refine (QgX (L 0) _ rfl _ (Qb r)).mono ?_;rintro e w' ⟨rfl,j⟩);go_ret;exact ⟨Zm f.out.symm,j⟩
 have f:Hid (QF L 0=false):=Qa (by unfold QF;rw [if_pos rfl,decide_eq_false a];rfl);have s:((L 0).d==0)=false:=by simp [a]
 clear a;go_enter Tryz.func62,Tryz.ntmps62;go_wp2;go_ret;exact ⟨Zm f.out.symm,X4⟩
theorem Quc (b j n c:Nat) L (i:Nat) w (z:n<=maxLen) (C:0<i) (f:i<n) (B:Qac w b j n L) (u:0<=(L (i-1)).d) (v:(L (i-1)).d<=11) : Xl 62 #[.slice (some (Xa b j)) n c,Xi i] w λe w'=>e=.returned (.bool (QF L i))/\Xb w w':=by
 have A:=Qa z;unfold maxLen at z;have a:Hid (∀ g:Ext w,Qac g.to b j n L):=Qa (λg=>B.below g.below);have E:∀ g:Ext w,Xc g.to b (j+i*5) (Xi (L i).d):=λg=>((Qb a g).node i f).c0;have F:∀ g:Ext w,Xc g.to b (j+i*5+1) (.string (L i).t):=λg=>((Qb a g).node i f).c1;have G:∀ g:Ext w,Xc g.to b (j+i*5+2) (Xi (L i).k):=λg=>((Qb a g).node i f).c2;have H:∀ g:Ext w,Xc g.to b (j+i*5+3) (.slice (L i).ao (L i).an (L i).ac):=λg=>((Qb a g).node i f).c3;have I:∀ g:Ext w,Xc g.to b (j+i*5+4) (.string (L i).x):=λg=>((Qb a g).node i f).c4;have J:∀ g:Ext w,Xc g.to b (j+(i-1)*5) (Xi (L (i-1)).d):=λg=>((Qb a g).node (i-1) (by omega)).c0;clear B;have K:((i:Int)==0)=false:=by simp;omega
 have D:Nonempty (Ext w):=⟨⟨w,X4⟩⟩;cases h:JM (L (i-1)).d (L i).d with
 | false =>
  have p:Hid (QF L i=false):=Qa (by unfold QF;rw [if_neg (by omega),h];rfl);have q:=Qa h;clear h;go_enter Tryz.func62,Tryz.ntmps62;go_wp2;refine Qgb (by kernel_rfl) (by kernel_rfl) ?_;repeat (go_big_quiet_step ((go_at_call 78;exact Qgd (QgF _ _ _ (Qb q) _ u v))))
  refine wpQuiet_nil ?_;intro _ o;obtain ⟨g,m⟩:=o;subst m;go_wp2;go_ret;exact ⟨Zm p.out.symm,g.below⟩
 | true =>
  cases l:Ze (L i) with
  | true =>
   have p:Hid (QF L i=Z4 L i i):=Qa (by unfold QF;rw [if_neg (by omega),h,l];simp);have q:=Qa h;have s:=Qa l;clear h l;go_enter Tryz.func62,Tryz.ntmps62;go_wp2;refine Qgb (by kernel_rfl) (by kernel_rfl) ?_;repeat (go_big_quiet_step (first|(go_at_call 78;exact Qgd (QgF _ _ _ (Qb q) _ u v))|(go_at_call 77;exact Qd9 (QgX (L i) _ (Qb s) _ ((Qb a _).node i f).ok))|(go_at_call 80;exact Qd9 (Qm0 b j n c L i _ (Qb A) f (Qb a _)))))
   refine wpQuiet_nil ?_;intro _ o;obtain ⟨g,m⟩:=o;subst m;go_wp2;go_ret;exact ⟨Zm p.out.symm,g.below⟩
  | false =>
   cases r:Zx (L i) with
   | true =>
    have p:Hid (QF L i=Z4 L i i):=Qa (by unfold QF;rw [if_neg (by omega),h,l,r];simp);have q:=Qa h;have s:=Qa l;have y:=Qa r;clear h l r;go_enter Tryz.func62,Tryz.ntmps62;go_wp2;refine Qgb (by kernel_rfl) (by kernel_rfl) ?_;repeat (go_big_quiet_step (first|(go_at_call 78;exact Qgd (QgF _ _ _ (Qb q) _ u v))|(go_at_call 77;exact Qd9 (QgX (L i) _ (Qb s) _ ((Qb a _).node i f).ok))|(go_at_call 79;exact Qd9 (QlH (L i) _ (Qb y) _ ((Qb a _).node i f).ok))|(go_at_call 80;exact Qd9 (Qm0 b j n c L i _ (Qb A) f (Qb a _)))))
    refine wpQuiet_nil ?_;intro _ o;obtain ⟨g,m⟩:=o;subst m;go_wp2;go_ret;exact ⟨Zm p.out.symm,g.below⟩
   | false =>
    have p:Hid (QF L i=false):=Qa (by unfold QF;rw [if_neg (by omega),l,r];simp);have q:=Qa h;have s:=Qa l;have y:=Qa r;clear h l r;go_enter Tryz.func62,Tryz.ntmps62;go_wp2;refine Qgb (by kernel_rfl) (by kernel_rfl) ?_;repeat (go_big_quiet_step (first|(go_at_call 78;exact Qgd (QgF _ _ _ (Qb q) _ u v))|(go_at_call 77;exact Qd9 (QgX (L i) _ (Qb s) _ ((Qb a _).node i f).ok))|(go_at_call 79;exact Qd9 (QlH (L i) _ (Qb y) _ ((Qb a _).node i f).ok))))
    refine wpQuiet_nil ?_;intro _ o;obtain ⟨g,m⟩:=o;subst m;go_wp2;go_ret;exact ⟨Zm p.out.symm,g.below⟩
def QbZ (a:Nat->Bool) (n:Nat):Int × Int:=match (List.range n).find? (λi=>!a i) with
 | some i=>(2,i)
 | none=>(0,0)
theorem QeM {b:Nat->Bool} (l:k<n) (h:∀ j,j<k->b j=true) (c:b k=false):QbZ b n=(2,(k:Int)):=by
 unfold QbZ;have:(List.range n).find? (λi=>!b i)=some k:=by
  rw [find?_eq_some_iff_append];refine ⟨by simp [c],List.range k,(List.range (n-k-1)).map (k+1+·),?_,?_⟩
  ·have d:List.range n=List.range (k+(n-k)):=by congr 1;omega
   have f:n-k=(n-k-1)+1:=by omega
   rw [d,range_add,f,range_succ_eq_map];simp [Function.comp_def,Nat.add_assoc,Nat.add_comm 1]
  intro a g;simp [h a (mem_range.1 g)]
 rw [this]
theorem Qj9 {b:Nat->Bool} (d:∀ j,j<n->b j=true):QbZ b n=(0,0):=by
 unfold QbZ;have:(List.range n).find? (λi=>!b i)=none:=by rw [find?_eq_none];intro a c;simp [d a (mem_range.1 c)]
 rw [this]
def Zk (a:Nat->Bool) (n:Nat):Int × Int:=if n<1 \/ 400<n then (1,0) else QbZ a n
def Jp (w:World) (ao:Option Addr) (n:Nat) (L:Nat->Qd):Prop:=0<n->∃ b a,ao=some (Xa b a)/\Qac w b a n L
theorem Jp.below {w w':World} {ao:Option Addr} {n:Nat} {L:Nat->Qd} (d:Jp w ao n L) (a:Xb w w'):Jp w' ao n L:=λc =>
 let ⟨b,o,e,g⟩:=d c
 ⟨b,o,e,g.below a⟩
theorem Qg8 (a:QF L j=true):0<=(L j).d/\(L j).d<=11:=by
 unfold QF at a;split at a
 ·next e=>subst e;simp at a;omega
 simp [JM] at a;omega
theorem Qbr {a b:Int} {p:Int × Int} (c:p=(a,b)):Ending.returned (.tuple #[Xi a,Xi b])=.returned (.tuple #[Xi p.1,Xi p.2]):=by rw [c]
theorem Qk5 (b a n c:Nat) (L:Nat->Qd) (i:Nat) (r:Bool) (l:QF L i=r) w (d:n<=maxLen) (f:i<n) (h:Qac w b a n L) (k:∀ j,j<i->QF L j=true) : Xl 62 #[.slice (some (Xa b a)) n c,Xi i] w λe w'=>e=.returned (.bool r)/\Xb w w':=by
 subst l;by_cases m:i=0
 ·subst m;exact QoN b a n c L w d f h
 have g:=Qg8 (k (i-1) (by omega));exact Quc b a n c L i w d (by omega) f h g.1 g.2
theorem QhS ao (n c:Nat) L w (s:n<=maxLen) (l:Jp w ao n L) : Xl 42 #[.slice ao n c] w λe w'=>e=.returned (.tuple #[Xi (Zk (QF L) n).1,Xi (Zk (QF L) n).2])/\Xb w w':=by
 have t:=Qa s;unfold maxLen at s;by_cases d:n<1 \/ 400<n
 ·have m:Hid (Zk (QF L) n=(1,0)):=Qa (by unfold Zk;rw [if_pos d]);clear l;rcases d with d|d;all_goals go_enter Tryz.func42,Tryz.ntmps42;go_wp2;go_ret2;exact ⟨Qbr m.out,X4⟩
 have y:1<=n:=by omega
 have z:n<=400:=by omega
 have m:Hid (Zk (QF L) n=QbZ (QF L) n):=Qa (by unfold Zk;rw [if_neg d]);clear d;obtain ⟨b,v,rfl,u⟩:=l (by omega);have x:=Qa u;clear l u;go_enter Tryz.func42,Tryz.ntmps42;go_wp2;go_loopw [4,15] (λ_ i wr=>∃ k:Nat,k<=n/\i=Xi k/\Hid (∀ j,j<k->QF L j=true)/\Xb w wr) (λ_ i _=>n-(intOf i).toNat);·exact ⟨0,X3,rfl,Qa (λj l=>absurd l (Xb7 _)),X4⟩
 case round =>
  obtain ⟨k,A,rfl,g,a⟩:=hrel;by_cases o:k<n
  ·have r:=Qa (x.out.below a);cases f:QF L k with
   | true =>
    have h:=Qa (Qdu g.out f);have q:=Qa f;clear f;go_wp2_with (go_at_call 62;refine (Qk5 b v n c L k true (Qb q) _ (Qb t) o (Qb r) (Qb g)).mono ?_;rintro e w2 ⟨rfl,p⟩);go_roundw;·exact ⟨k+1,by omega,by go_num,h,a.trans (p.mono a.size)⟩
    simp [intOf];omega
   | false =>have h:=Qa (m.out.trans (QeM o g.out f));have q:=Qa f;clear f;go_wp2_with (go_at_call 62;refine (Qk5 b v n c L k false (Qb q) _ (Qb t) o (Qb r) (Qb g)).mono ?_;rintro e w2 ⟨rfl,p⟩);go_ret2;exact ⟨Qbr h.out,a.trans (p.mono a.size)⟩
  have h:=Qa (m.out.trans (Qj9 λj B=>g.out j (by omega)));go_wp2;go_ret2;exact ⟨Qbr h.out,a⟩
def ZZ (n:Qd):Bool:=Ze n||Zx n
theorem Qgl {s:ByteArray} (c:s.toList.isEmpty=true):QK s=false:=by
 apply Qjo;have b:s.toList=[]:=by simpa using c
 have a:s.toList.length=s.size:=by rw [ByteArray.toList_eq,Array.length_toList];rfl
 rw [b] at a;simp at a;omega
theorem Qse {n:Qd} (a:n.t.toList.isEmpty=true):ZZ n=(decide (n.k=0)&&decide (n.an=0)&&ZD n.x):=by unfold ZZ Ze Zx;rw [Qgl a,a];simp
theorem QmH {n:Qd} (a:n.t.toList.isEmpty=false):ZZ n=(QK n.t&&n.x.toList.isEmpty&&decide (0<=n.k)&&JX n.an n.nm n.vl):=by unfold ZZ Ze Zx;rw [a];simp
theorem QsQ (n:Qd) (w:World) (m:n.Ok w) (h:n.t.toList.isEmpty=true) : Xl 23 #[n.val] w λe w'=>e=.returned (.bool (ZZ n))/\Xb w w':=by
 have d:∀ g,Xb w (w.alloc g):=λg=>X4.alloc X0 g;have f:=Qa (Qse h);obtain ⟨o,p,i,_⟩:=m;unfold maxLen at i;unfold Qd.val;by_cases a:n.k=0
 ·have j:(n.k==0)=true:=by simp [a]
  by_cases b:n.an=0
  ·have l:((n.an:Int)==0)=true:=by simp [b]
   have c:=Qa (show ZZ n=ZD n.x by rw [f.out,decide_eq_true a,decide_eq_true b];rfl);clear a b;go_enter Tryz.func23,Tryz.ntmps23;go_wp2;go_ret;exact ⟨Zm (by rw [c.out];unfold ZD;simp;omega),d _⟩
  have l:((n.an:Int)==0)=false:=by simp;omega
  have c:=Qa (show ZZ n=false by rw [f.out,decide_eq_false b];simp);clear a b;go_enter Tryz.func23,Tryz.ntmps23;go_wp2;go_ret;exact ⟨Zm c.out.symm,d _⟩
 have j:(n.k==0)=false:=by simp [a]
 have c:=Qa (show ZZ n=false by rw [f.out,decide_eq_false a];simp);clear a;go_enter Tryz.func23,Tryz.ntmps23;go_wp2;go_ret;exact ⟨Zm c.out.symm,d _⟩
theorem QpX (n:Qd) (w:World) (a:n.Ok w) (o:n.t.toList.isEmpty=false) (b:QK n.t=false \/ n.k<0 \/ n.x.toList.isEmpty=false \/ 5<n.an) : Xl 23 #[n.val] w λe w'=>e=.returned (.bool false)/\Xb w w':=by
 have f:∀ i,Xb w (w.alloc i):=λi=>X4.alloc X0 i;obtain ⟨j,g,p,_⟩:=a;unfold maxLen at j;unfold Qd.val;cases c:QK n.t with
 | false =>have d:=Qa c;clear c b;go_enter Tryz.func23,Tryz.ntmps23;go_wp2_with (go_at_call 45;refine (Qcx _ false (Qb d) g _).mono ?_;rintro e w' ⟨rfl,rfl⟩);go_ret;exact ⟨rfl,f _⟩
 | true =>
  have d:=Qa c;rw [c] at b;have b:n.k<0 \/ n.x.toList.isEmpty=false \/ 5<n.an:=by rcases b with a|a;exact absurd a (by simp);exact a
  clear c;by_cases h:n.k<0
  ·clear b;go_enter Tryz.func23,Tryz.ntmps23;go_wp2_with (go_at_call 45;refine (Qcx _ true (Qb d) g _).mono ?_;rintro e w' ⟨rfl,rfl⟩);go_ret;exact ⟨rfl,f _⟩
  have m:0<=n.k:=by omega
  cases l:n.x.toList.isEmpty with
  | false =>clear b h;go_enter Tryz.func23,Tryz.ntmps23;go_wp2_with (go_at_call 45;refine (Qcx _ true (Qb d) g _).mono ?_;rintro e w' ⟨rfl,rfl⟩);go_ret;exact ⟨rfl,f _⟩
  | true =>
   have q:5<n.an:=by rcases b with a|a|a;exact absurd a h;rw [l] at a;cases a;exact a
   clear b h;go_enter Tryz.func23,Tryz.ntmps23;go_wp2_with (go_at_call 45;refine (Qcx _ true (Qb d) g _).mono ?_;rintro e w' ⟨rfl,rfl⟩);go_ret;exact ⟨rfl,f _⟩
theorem QvV {s:ByteArray} (a:ZD s=true):s.size<=20:=by unfold ZD at a;simpa using a
theorem QoZ {s:ByteArray} (a:ZD s=false):20<s.size:=by unfold ZD at a;simpa using a
theorem Quq (d:Int) (t:ByteArray) (key:Int) ao (an ac:Nat) (x:ByteArray) nm vl w (v:an<=maxLen) (y:t.size<=maxLen) (p:Zn w ao an nm vl) (L:t.toList.isEmpty=false) (a:QK t=true) (M:0<=key) (N:x.toList.isEmpty=true) (z:an<=5) : Xl 23 #[.agg #[Xi d,.string t,Xi key,.slice ao an ac,.string x]] w λe w'=>e=.returned (.bool (JX an nm vl))/\Xb w w':=by
 have n:∀ q,Xb w ((w.alloc (.cells #[Xi d,.string t,Xi key,.slice ao an ac,.string x] 33)).drewN q):=λq=>Qv Xd q;have r:=Qa p;clear p;have A:=Qa a;clear a;unfold maxLen at v;go_enter Tryz.func23,Tryz.ntmps23;go_wp2_with (go_at_call 45;refine (Qcx _ true (Qb A) y _).mono ?_;rintro e w' ⟨rfl,rfl⟩);go_loopw [4,5] (λi _ wr=>∃ k q:Nat,k<=an/\i=Xi k/\Hid (∀ j,j<k->JU nm vl j=true)/\wr=(w.alloc (.cells #[Xi d,.string t,Xi key,.slice ao an ac,.string x] 33)).drewN q) (λi _ _=>an-(intOf i).toNat);·exact ⟨0,0,X3,rfl,Qa (λj G=>absurd G (Xb7 _)),rfl⟩
 case round =>
  obtain ⟨k,q,O,rfl,f,rfl⟩:=hrel;by_cases o:k<an
  ·obtain ⟨b,U,rfl,H,B,C,h,s⟩:=r.out k o;have I:b≠w.heap.size:=by omega
   have J:=Qa s;unfold maxLen at s;cases a:QK (nm k) with
   | false =>have l:=Qa (QeI o (Qmx a):JX an nm vl=false);have g:=Qa a;clear a f;go_wp2_with (go_at_call 45;refine (Qcx _ false (Qb g) h _).mono ?_;rintro e w' ⟨rfl,rfl⟩);go_big_quiet (fail);go_wp2;go_ret;exact ⟨Zm l.out.symm,Qv (n _) _⟩
   | true =>
    have g:=Qa a;cases c:ZD (vl k) with
    | false =>
     have l:=Qa (QeI o (Qnx c):JX an nm vl=false);have D:=QoZ c;have E:decide ((20:Int)<((vl k).size:Int))=true:=by simp;omega
     clear a f c;go_wp2_with (go_at_call 45;refine (Qcx _ true (Qb g) h _).mono ?_;rintro e w' ⟨rfl,rfl⟩);go_big_quiet (fail);go_wp2;go_ret;exact ⟨Zm l.out.symm,Qv (n _) _⟩
    | true =>
     have D:=QvV c;have E:decide ((20:Int)<((vl k).size:Int))=false:=by simp;omega
     by_cases F:k=0
     ·subst F;simp only [Nat.zero_mul,Nat.add_zero] at B C;have m:=Qa (Qdu f.out (QjE a c));clear a c f;go_wp2_with (go_at_call 45;refine (Qcx _ true (Qb g) h _).mono ?_;rintro e w' ⟨rfl,rfl⟩);go_big_quiet (fail);go_wp2;go_roundw;·exact ⟨1,_,by omega,by go_num,m,rfl⟩
      simp [intOf];omega
     obtain ⟨P,R,e',_,S,_,_,_⟩:=r.out (k-1) (by omega);cases e';have K:0<k:=by omega
     cases u:Op.bytesLess (nm (k-1)).toList (nm k).toList with
     | true =>
      have m:=Qa (Qdu f.out (Qlc a c u));clear a c f;go_wp2_with (go_at_call 45;refine (Qcx _ true (Qb g) h _).mono ?_;rintro e w' ⟨rfl,rfl⟩);go_big_quiet (fail);go_wp2;go_roundw;·exact ⟨k+1,_,by omega,by go_num,m,rfl⟩
      simp [intOf];omega
     | false =>have l:=Qa (QeI o (QmR (vl:=vl) (by omega) u));clear a c f;go_wp2_with (go_at_call 45;refine (Qcx _ true (Qb g) h _).mono ?_;rintro e w' ⟨rfl,rfl⟩);go_big_quiet (fail);go_wp2;go_ret;exact ⟨Zm l.out.symm,Qv (n _) _⟩
  have m:=Qa (QkD z λj T=>f.out j (by omega));go_wp2;go_ret;exact ⟨Zm m.out.symm,n _⟩
theorem QrJ (n:Qd) (w:World) (a:n.Ok w) (b:n.t.toList.isEmpty=false) (c:QK n.t=true) (f:0<=n.k) (g:n.x.toList.isEmpty=true) (h:n.an<=5) : Xl 23 #[n.val] w λe w'=>e=.returned (.bool (JX n.an n.nm n.vl))/\Xb w w' := Quq n.d n.t n.k n.ao n.an n.ac n.x n.nm n.vl w a.an a.t a.at' b c f g h
theorem Qqa (n:Qd) (w:World) (a:n.Ok w) : Xl 23 #[n.val] w λe w'=>e=.returned (.bool (ZZ n))/\Xb w w':=by
 cases c:n.t.toList.isEmpty with
 | true=>exact QsQ n w a c
 | false =>
  by_cases b:QK n.t=false \/ n.k<0 \/ n.x.toList.isEmpty=false \/ 5<n.an
  ·have e:ZZ n=false:=by
    rw [QmH c];rcases b with a|a|a|a
    ·rw [a];rfl
    ·rw [decide_eq_false (p:=0<=n.k) (by omega)];simp
    ·rw [a];simp
    rw [Qma a];simp
   rw [e];exact QpX n w a c b
  have f:QK n.t=true:=by cases d:QK n.t with|true=>rfl|false=>exact absurd (.inl d) b
  have g:0<=n.k:=by by_cases a:n.k<0;exact absurd (.inr (.inl a)) b;omega
  have h:n.x.toList.isEmpty=true:=by cases d:n.x.toList.isEmpty with|true=>rfl|false=>exact absurd (.inr (.inr (.inl d))) b
  have i:n.an<=5:=by by_cases a:5<n.an;exact absurd (.inr (.inr (.inr a))) b;omega
  have e:ZZ n=JX n.an n.nm n.vl:=by rw [QmH c,f,h,decide_eq_true g];rfl
  rw [e];exact QrJ n w a c f g h i
def Q1 (L:Nat->Qd) (i:Nat):Nat->Int
 | 0=>-1
 | j+1=>if (L j).d=(L i).d-1 then (j:Int) else Q1 L i j
theorem Qge {a b:Int} (c:a=b):Ending.returned (Xi a)=.returned (Xi b):=by rw [c]
theorem Qne (b k n c:Nat) L (i:Nat) w (l:n<=maxLen) (o:i<n) (h:Qac w b k n L) (t:1<=(L i).d) (u:(L i).d<=11) : Xl 24 #[.slice (some (Xa b k)) n c,Xi i] w λe w'=>e=.returned (Xi (Q1 L i i))/\Xb w w':=by
 unfold maxLen at l;have s:=Qa h;have v:=(h.node i o).c0;clear h;go_enter Tryz.func24,Tryz.ntmps24;go_wp2;go_loopw [5] (λj wr=>∃ m q:Nat,m<=i/\j=Xi ((m:Int)-1)/\Hid (Q1 L i m=Q1 L i i)/\wr=w.drewN q) (λj _=>(intOf j+1).toNat);·exact ⟨i,0,X0,rfl,rfl,rfl⟩
 case round =>
  obtain ⟨m,q,x,rfl,f,rfl⟩:=hrel;cases m with
  | zero =>go_wp2;go_ret;exact ⟨Qge f.out,Qv X4 _⟩
  | succ p =>
   have e:(((p+1:Nat):Int)-1)=p:=by omega
   rw [e];clear e;have y:=(s.out.node p (by omega)).c0;by_cases a:(L p).d=(L i).d-1
   ·have g:=Qa (show Q1 L i i=p by rw [<- f.out,Q1,if_pos a]);have r:((L p).d==(L i).d-1)=true:=by simp [a]
    clear f a;go_wp2;go_big_quiet (fail);go_wp2;go_ret;exact ⟨Qge g.out.symm,Qv (Qv X4 _) _⟩
   have g:=Qa (show Q1 L i p=Q1 L i i by rw [<- f.out,Q1,if_neg a]);have r:((L p).d==(L i).d-1)=false:=by simp [a]
   clear f a;go_wp2;go_big_quiet (fail);go_wp2;go_roundw;·exact ⟨p,_,by omega,by go_num,g,rfl⟩
   simp [intOf]
theorem Qoh (f:Nat->Int) (x:Int):∀ i,0<i->f 0<x->∃ p,p<i/\f p<x/\∀ j,p<j->j<i->x<=f j:=by
 intro i;induction i with
 | zero=>intro l;exact absurd l (Xc8 _)
 | succ i ih =>
  intro _ a;by_cases b:f i<x
  ·exact ⟨i,Xd2 _,b,λj d c=>by omega⟩
  by_cases g:i=0
  ·subst g;exact absurd a b
  obtain ⟨p,d,c,h⟩:=ih (by omega) a;refine ⟨p,by omega,c,λj k m=>?_⟩;by_cases e:j=i
  ·subst e;omega
  exact h j k (by omega)
theorem Qfu (a:QF L 0=true):(L 0).d=0:=by unfold QF at a;rw [if_pos rfl] at a;simp at a;exact a.1
theorem QqO (a:QF L (j+1)=true):(L (j+1)).d<=(L j).d+1:=by unfold QF at a;rw [if_neg (by omega)] at a;simp [JM] at a;omega
structure Par (L:Nat->Qd) (i p:Nat):Prop where
 lt:p<i
 up:(L p).d=(L i).d-1
 deep:∀ j,p<j->j<i->(L i).d<=(L j).d
theorem Qie (f:0<i) (c:∀ j,j<i->QF L j=true) (m:1<=(L i).d) (k:(L i).d<=(L (i-1)).d+1):∃ p,Par L i p:=by
 obtain ⟨p,l,g,h⟩:=Qoh (λj=>(L j).d) (L i).d i f (by show (L 0).d<_;have:=Qfu (c 0 f);omega);refine ⟨p,l,?_,h⟩;have g:(L p).d<(L i).d:=g;by_cases e:p+1=i
 ·have:i-1=p:=by omega
  rw [this] at k;omega
 have a:=QqO (c (p+1) (by omega));have b:=h (p+1) (by omega) (by omega);have b:(L i).d<=(L (p+1)).d:=b;omega
theorem Par.parent (a:Par L i p):Q1 L i i=p:=by
 have b:∀ m,p<m->m<=i->Q1 L i m=p:=by
  intro m;induction m with
  | zero=>intro a;omega
  | succ m ih =>
   intro c d;by_cases e:m=p
   ·subst e;rw [Q1,if_pos a.up]
   have:=a.deep m (by omega) (by omega);rw [Q1,if_neg (by omega)];exact ih (by omega) (by omega)
 exact b i a.lt X0
theorem Par.back (h:Par L i p):∀ m,p<m->m<=i->(∀ j,m<=j->j<i->¬ ((L i).k≠0/\(L j).d=(L i).d/\(L j).k=(L i).k))->Z4 L i i=Z4 L i m:=by
 intro m l f g;have c:∀ t,m<=t->t<=i->Z4 L i t=Z4 L i m:=by
  intro t;induction t with
  | zero=>intro a b;omega
  | succ t ih =>
   intro a b;by_cases e:m=t+1
   ·rw [e]
   have:=h.deep t (by omega) (by omega);rw [QeL (by omega) (g t (by omega) (by omega))];exact ih (by omega) (by omega)
 exact c i f X0
theorem Par.good (c:Par L i p) (f:∀ j,p<j->j<i->¬ ((L i).k≠0/\(L j).d=(L i).d/\(L j).k=(L i).k)):Z4 L i i=!(L p).t.toList.isEmpty:=by rw [c.back (p+1) (by omega) c.lt (λj a b=>f j (by omega) b),Qjq];have:=c.up;omega
theorem Par.bad (l:Par L i p) (m:p<j) (g:j<i) (h:(L i).k≠0/\(L j).d=(L i).d/\(L j).k=(L i).k):Z4 L i i=false:=by
 have f:∀ t,j<t->t<=i->Z4 L i t=false:=by
  intro t;induction t with
  | zero=>intro a;omega
  | succ t ih =>
   intro a b;have n:=l.deep t (by omega) (by omega);by_cases c:(L i).k≠0/\(L t).d=(L i).d/\(L t).k=(L i).k
   ·exact Qhd (by omega) c.1 c.2.1 c.2.2
   rw [QeL (by omega) c];by_cases e:t=j
   ·subst e;exact absurd h c
   exact ih (by omega) (by omega)
 exact f i g X0
theorem Par.text (f:Par L i p) (g:(L p).t.toList.isEmpty=true):Z4 L i i=false:=by
 by_cases c:∃ j,p<j/\j<i/\((L i).k≠0/\(L j).d=(L i).d/\(L j).k=(L i).k)
 ·obtain ⟨j,h,l,m⟩:=c;exact f.bad h l m
 rw [f.good (λj a b d=>c ⟨j,a,b,d⟩),g];rfl
theorem QjC:QF L 0=(ZZ (L 0)&&decide ((L 0).d=0)&&!(L 0).t.toList.isEmpty):=by unfold QF;rw [if_pos rfl];cases a:(L 0).t.toList.isEmpty with| true=>unfold Ze;rw [Qgl a];simp| false=>unfold ZZ Zx;rw [a];simp [Bool.and_comm]
theorem Qh6 (a:0<i):QF L i=(ZZ (L i)&&JM (L (i-1)).d (L i).d&&Z4 L i i):=by unfold QF ZZ;rw [if_neg (by omega)];rw [Bool.and_comm (JM _ _)]
theorem Qo5 {n:Qd} (a:ZZ n=true):0<=n.k:=by
 unfold ZZ Ze Zx at a;simp at a;rcases a with a|a
 ·exact a.1.2
 omega
end Go.Proofs.YtobgcaemnpkbmaaGreat
