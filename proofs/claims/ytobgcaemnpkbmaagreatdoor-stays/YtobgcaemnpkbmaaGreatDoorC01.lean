import Derived.WalkKit
import Derived.Deep.Draws
import Derived.Test.YtobgcaemnpkbmaaGreatDoorRows
import Derived.WalkSpells
import Derived.WalkLawsBesides
import Derived.BigQuiet
import Derived.Deep.RegionWith
import Derived.Deep.OwnRows
import Derived.Laws.CopyRow
namespace Go.Proofs.YtobgcaemnpkbmaaGreatDoor
set_option maxRecDepth 100000
set_option maxHeartbeats 8000000
open Go.RowKit List
theorem Qa {p:Prop} (h:p):Hid p:=h
theorem Qb {p:Prop} (h:Hid p):p:=h
theorem QL {b:Nat} {a w:World} (h:Below b a w) (n:Nat):Below b a (w.drewN n):=h.trans ⟨rfl,rfl,rfl,Nat.le_refl _,λ_ _=>rfl⟩
def Qaj (c:UInt8):Bool:=decide (97<=c.toNat)&&decide (c.toNat<=122)
def QR (s:ByteArray):Bool:=decide (1<=s.size)&&decide (s.size<=8)&&s.data.toList.all Qaj
def Zx (s:ByteArray):Bool:=decide (s.size<=20)
theorem Qks {s:ByteArray} (h:s.size<1):QR s=false:=by unfold QR;rw [decide_eq_false (by omega)];rfl
theorem Qu6 {s:ByteArray} (h:8<s.size):QR s=false:=by unfold QR;rw [decide_eq_false (p:=s.size<=8) (by omega)];simp
theorem Quk {s:ByteArray} {k:Nat} (a:k<s.size) (h:Qaj s[k]=false):QR s=false:=by
 have b:s.data.toList.all Qaj=false:=by apply Bool.eq_false_iff.2;intro c;have:=all_eq_true.1 c s[k] (by have e:s[k]=s.data.toList[k]'(by simpa using a):=rfl;rw [e];exact getElem_mem _);rw [h] at this;cases this
 unfold QR;rw [b];simp
theorem QnW {s:ByteArray} (c:1<=s.size) (d:s.size<=8) (h:∀ k,(a:k<s.size)->Qaj s[k]=true):QR s=true:=by
 have f:s.data.toList.all Qaj=true:=by
  apply all_eq_true.2;intro x g;obtain ⟨k,a,e⟩:=getElem_of_mem g;have b:k<s.size:=by simpa using a
  have:=h k b;rw [<- e];exact this
 unfold QR;rw [f,decide_eq_true c,decide_eq_true d];rfl
theorem Qpa {s:ByteArray} (a:s.size<1 \/ 8<s.size):QR s=false:=by
 rcases a with h|h
 ·exact Qks h
 exact Qu6 h
theorem Qph {c:UInt8} (a:(97:Int)<=c.toNat) (b:(c.toNat:Int)<=122):Qaj c=true:=by unfold Qaj;rw [decide_eq_true (by omega),decide_eq_true (by omega)];rfl
theorem Qsx {c:UInt8} (h:Qaj c=true):(97:Int)<=c.toNat/\(c.toNat:Int)<=122:=by unfold Qaj at h;simp at h;omega
theorem Qus {c:UInt8} (h:¬ Qaj c=true):(c.toNat:Int)<97 \/ ((97:Int)<=c.toNat/\(122:Int)<c.toNat):=by
 by_cases a:(c.toNat:Int)<97
 ·exact .inl a
 refine .inr ⟨by omega,?_⟩;by_cases b:(122:Int)<c.toNat
 ·exact b
 exact absurd (Qph (by omega) (by omega)) h
theorem QoO {s:ByteArray} {k:Nat} (d:k<s.size) (h:∀ j,(a:j<s.size)->j<k->Qaj s[j]=true) (b:Qaj s[k]=true):∀ j,(a:j<s.size)->j<k+1->Qaj s[j]=true:=by
 intro j a c;by_cases e:j=k
 ·subst e;exact b
 exact h j a (by omega)
theorem ZD {a b:Bool} (h:a=b):Ending.returned (.bool a)=.returned (.bool b):=by rw [h]
def Ju (nm vl:Nat->ByteArray) (j:Nat):Bool:=QR (nm j)&&Zx (vl j)&&(decide (j=0)||Op.bytesLess (nm (j-1)).toList (nm j).toList)
def JJ (n:Nat) (nm vl:Nat->ByteArray):Bool:=decide (n<=5)&&(List.range n).all (Ju nm vl)
theorem QnU {n:Nat} {nm vl:Nat->ByteArray} (h:5<n):JJ n nm vl=false:=by unfold JJ;rw [decide_eq_false (by omega)];rfl
theorem Qg2 {n k:Nat} {nm vl:Nat->ByteArray} (a:k<n) (h:Ju nm vl k=false):JJ n nm vl=false:=by
 have:(List.range n).all (Ju nm vl)=false:=by apply Bool.eq_false_iff.2;intro b;have:=all_eq_true.1 b k (mem_range.2 a);rw [h] at this;cases this
 unfold JJ;rw [this];simp
theorem QgJ {n:Nat} {nm vl:Nat->ByteArray} (a:n<=5) (h:∀ j,j<n->Ju nm vl j=true):JJ n nm vl=true:=by have:(List.range n).all (Ju nm vl)=true:=all_eq_true.2 λj b=>h j (mem_range.1 b);unfold JJ;rw [this,decide_eq_true a];rfl
theorem Qnp {nm vl:Nat->ByteArray} {j:Nat} (h:QR (nm j)=false):Ju nm vl j=false:=by unfold Ju;rw [h];rfl
theorem Qt0 {nm vl:Nat->ByteArray} {j:Nat} (h:Zx (vl j)=false):Ju nm vl j=false:=by unfold Ju;rw [h];simp
theorem Qua {nm vl:Nat->ByteArray} {j:Nat} (a:0<j) (h:Op.bytesLess (nm (j-1)).toList (nm j).toList=false):Ju nm vl j=false:=by unfold Ju;rw [h,decide_eq_false (by omega)];simp
theorem Qhg {nm vl:Nat->ByteArray} (a:QR (nm 0)=true) (b:Zx (vl 0)=true):Ju nm vl 0=true:=by unfold Ju;rw [a,b];rfl
theorem Qhk {nm vl:Nat->ByteArray} {j:Nat} (a:QR (nm j)=true) (b:Zx (vl j)=true) (h:Op.bytesLess (nm (j-1)).toList (nm j).toList=true):Ju nm vl j=true:=by unfold Ju;rw [a,b,h];simp
theorem QhD {p:Nat->Bool} {k:Nat} (h:∀ j,j<k->p j=true) (a:p k=true):∀ j,j<k+1->p j=true:=by
 intro j b;by_cases e:j=k
 ·subst e;exact a
 exact h j (by omega)
abbrev Xa (b o : Nat) : Addr := ⟨b, o, none⟩
@[simp, go_sem] abbrev Xc (w : World) (b o : Nat) (v : Value) : Prop := w.cell? ⟨b, o, none⟩ = some v
@[simp, go_sem] abbrev Xf (w : World) (b o : Nat) : Prop := w.frozen? ⟨b, o, none⟩ = false
abbrev Xi (x : Int) : Value := .int .i64 x
abbrev Xp (b : Nat) : Value := .pointer (some ⟨b, 0, none⟩)
abbrev Xl := Calls Tryz.prog
@[simp, go_sem] abbrev Xb (w w' : World) : Prop := Below w.heap.size w w'
theorem Xh {B : Nat} {w w' : World} (h : Below B w w') (b o : Nat) (hb : b < B) : w'.cell? ⟨b, o, none⟩ = w.cell? ⟨b, o, none⟩ := h.cell (p := ⟨b, o, none⟩) hb
theorem Xj {B : Nat} {w w' : World} (h : Below B w w') (b o : Nat) (hb : b < B) : w'.frozen? ⟨b, o, none⟩ = w.frozen? ⟨b, o, none⟩ := h.frozen (p := ⟨b, o, none⟩) hb
theorem Xk {w w' : World} (b o : Nat) (h : w'.heap[b]? = w.heap[b]?) : w'.cell? ⟨b, o, none⟩ = w.cell? ⟨b, o, none⟩ := World.cell?_of_block (a := ⟨b, o, none⟩) h
theorem Xm {w w' : World} (b o : Nat) (h : w'.heap[b]? = w.heap[b]?) : w'.frozen? ⟨b, o, none⟩ = w.frozen? ⟨b, o, none⟩ := World.frozen?_of_block (a := ⟨b, o, none⟩) h
theorem Xq : (∀ {α : Type} (l : List α) (i : Nat) (h : i < l.toArray.size), l.toArray[i] = l[i]'(by simpa using h)) ∧ (∀ {α : Type} (a : α) (l : List α) (h : 0 < (a :: l).length), (a :: l)[0] = a) ∧ (∀ {α : Type} (a : α) (l : List α) (i : Nat) (h : i + 1 < (a :: l).length), (a :: l)[i + 1] = l[i]'(by simpa using h)) := ⟨fun _ _ _ => by simp, fun _ _ _ => by simp, fun _ _ _ _ => by simp⟩
theorem Xr : (∀ (a : Act) (d : Tmp) (v : Value), a.put (some d) v = { a with tmps := a.tmps.setIfInBounds d v }) ∧ (∀ (a : Act) (v : Value), a.put none v = a) ∧ (∀ {α : Type} (l : List α) (i : Nat) (v : α), l.toArray.setIfInBounds i v = (l.set i v).toArray) ∧ (∀ {α : Type} (a b : α) (l : List α), (a :: l).set 0 b = b :: l) ∧ (∀ {α : Type} (a b : α) (l : List α) (n : Nat), (a :: l).set (n + 1) b = a :: l.set n b) := ⟨fun _ _ _ => rfl, fun _ _ => rfl, fun _ _ _ => by simp, fun _ _ _ => rfl, fun _ _ _ _ => rfl⟩
theorem Xs : (∀ {α : Type} (l : List α), l.toArray.size = l.length) ∧ (∀ {α : Type} (a : α) (l : List α), (a :: l).length = l.length + 1) ∧ (∀ {α : Type}, ([] : List α).length = 0) := ⟨fun _ => rfl, fun _ _ => rfl, rfl⟩
theorem Xg {α : Type} {l : List α} {i : Nat} {d : α} (h : i < l.length) : l.getD i d = (some l[i]).getD d := by rw [List.getD_eq_getElem?_getD, List.getElem?_eq_getElem h]
theorem Xd {w : World} {o : Obj} : Below w.heap.size w (w.alloc o) := (Below.refl _ _).alloc (Nat.le_refl _) _
theorem Xn {w : World} {o p : Obj} : Below w.heap.size w ((w.alloc o).alloc p) := ((Below.refl _ _).alloc (Nat.le_refl _) _).alloc (by simp) _
abbrev Xw (w : World) (o : Nat) : Addr := ⟨w.heap.size, o, none⟩
abbrev Xe (b n c : Nat) : Value := .slice (some ⟨b, 0, none⟩) n c
abbrev Xv : Value := .slice none 0 0
abbrev Xo : Value := .string ⟨#[]⟩
theorem Xz {w w' : World} {c : Array Value} {t : TypeId} (h : w.alloc (.cells c t) = w') (i : Nat) (v : Value) (e : c[i]? = some v) : w'.cell? ⟨w.heap.size, i, none⟩ = some v := by subst h; exact (World.cell?_alloc_new w c t i).trans e
theorem Xy {w w' : World} {o : Obj} {c : Array Value} {t : TypeId} (h : (w.alloc o).alloc (.cells c t) = w') (i : Nat) (v : Value) (e : c[i]? = some v) : w'.cell? ⟨w.heap.size + 1, i, none⟩ = some v := by have := Xz h i v e; rwa [World.size_alloc] at this
theorem Xx {w w' : World} {o : Obj} {c : Array Value} {t : TypeId} (h : (w.alloc (.cells c t)).alloc o = w') (i : Nat) (v : Value) (e : c[i]? = some v) : w'.cell? ⟨w.heap.size, i, none⟩ = some v := by subst h; exact ((Xd (w := w.alloc (.cells c t)) (o := o)).cell (p := ⟨w.heap.size, i, none⟩) (by simp)).trans (Xz rfl i v e)
theorem Xt {w w' : World} {o : Obj} (h : w.alloc o = w') : Below w.heap.size w w' := by subst h; exact Xd
theorem Xu {w w' : World} {o p : Obj} (h : (w.alloc o).alloc p = w') : Below w.heap.size w w' := by subst h; exact Xn
theorem X1 {w w' : World} {o : Obj} (h : w.alloc o = w') : w'.heap.size = w.heap.size + 1 := by subst h; simp
theorem X2 {w w' : World} {o p : Obj} (h : (w.alloc o).alloc p = w') : w'.heap.size = w.heap.size + 2 := by subst h; simp
theorem X0 {n : Nat} : n ≤ n := Nat.le_refl n
theorem X3 {n : Nat} : 0 ≤ n := Nat.zero_le n
theorem X4 {B : Nat} {w : World} : Below B w w := Below.refl B w
theorem X5 {w : World} {a : Addr} {u : Value} {k : Nat} (h : k ≠ a.block) : (w.setCell a u).heap[k]? = w.heap[k]? := Below.heap_setCell w a u k h
theorem X6 {w : World} {a : Addr} {v : Value} (h : w.cell? a = some v) : a.block < w.heap.size := World.block_lt_of_cell? w a h
theorem Qk3 (s:ByteArray) (w:World) (a:s.size<=maxLen) : Xl 145 #[.string s] w λe w'=>e=.returned (.bool (Zx s))/\w'=w:=by unfold maxLen at a;go_enter Tryz.func145,Tryz.ntmps145;go_wp2;go_ret;exact ⟨ZD (by unfold Zx;simp;omega),rfl⟩
theorem QsJ (s:ByteArray) (w:World) (l:s.size<=maxLen) : Xl 144 #[.string s] w λe w'=>e=.returned (.bool (QR s))/\w'=w:=by
 unfold maxLen at l;by_cases hb:s.size<1 \/ 8<s.size
 ·have m:Hid (QR s=false):=Qpa hb;rcases hb with h|h;all_goals go_enter Tryz.func144,Tryz.ntmps144;go_wp2;go_ret;exact ⟨ZD m.out.symm,rfl⟩
 have n:1<=s.size:=by omega
 have o:s.size<=8:=by omega
 clear hb;go_enter Tryz.func144,Tryz.ntmps144;go_wp2;go_loop [3,14] (λ_ i=>∃ k:Nat,k<=s.size/\i=Xi k/\Hid (∀ j,(c:j<s.size)->j<k->Qaj s[j]=true)) (λ_ i=>s.size-(intOf i).toNat);·exact ⟨0,Nat.zero_le _,rfl,λj _ h=>absurd h (Nat.not_lt_zero _)⟩
 case round =>
  obtain ⟨k,t,rfl,b⟩:=hrel;by_cases d:k<s.size
  ·by_cases a:Qaj s[k]=true
   ·obtain ⟨f,g⟩:=Qsx a;have p:Hid (∀ j,(c:j<s.size)->j<k+1->Qaj s[j]=true):=QoO d b.out a;clear b a;go_wp2;go_round;·exact ⟨k+1,by omega,by go_num,p⟩
    simp [intOf];omega
   have q:Hid (QR s=false):=Quk d (by simpa using a);have r:=Qus a;clear b a;rcases r with f|⟨f,g⟩;all_goals go_wp2;go_ret;exact ⟨ZD q.out.symm,rfl⟩
  go_wp2;go_ret;exact ⟨ZD (QnW n o λj c=>b.out j c (by omega)).symm,rfl⟩
theorem QaT (s:ByteArray) (b:Bool) (h:QR s=b) (a:s.size<=maxLen) (w:World) : Xl 144 #[.string s] w λe w'=>e=.returned (.bool b)/\w'=w:=by subst h;exact QsJ s w a
theorem QbX (s:ByteArray) (b:Bool) (h:Zx s=b) (a:s.size<=maxLen) (w:World) : Xl 145 #[.string s] w λe w'=>e=.returned (.bool b)/\w'=w:=by subst h;exact Qk3 s w a
def JL (a d:Int):Bool:=decide (1<=d)&&decide (d<=a+1)&&decide (d<12)
theorem QqK {a d:Int} (h:d<1):JL a d=false:=by unfold JL;rw [decide_eq_false (by omega)];rfl
theorem QnS {a d:Int} (h:a+1<d):JL a d=false:=by unfold JL;rw [decide_eq_false (p:=d<=a+1) (by omega)];simp
theorem QpW {a d:Int} (h:12<=d):JL a d=false:=by unfold JL;rw [decide_eq_false (p:=d<12) (by omega)];simp
theorem Qjx {a d:Int} (b:1<=d) (c:d<=a+1) (f:d<12):JL a d=true:=by unfold JL;rw [decide_eq_true b,decide_eq_true c,decide_eq_true f];rfl
theorem Qsi (a d:Int) (w:World) (h:0<=a) (i:a<=11) : Xl 124 #[Xi a,Xi d] w λe w'=>e=.returned (.bool (JL a d))/\w'=w:=by
 by_cases c:1<=d
 ·by_cases f:d<=a+1
  ·by_cases g:d<12
   ·go_enter Tryz.func124,Tryz.ntmps124;go_wp2;go_ret;exact ⟨ZD (Qjx c f g).symm,rfl⟩
   have b:Hid (JL a d=false):=QpW (by omega);go_enter Tryz.func124,Tryz.ntmps124;go_wp2;go_ret;exact ⟨ZD b.out.symm,rfl⟩
  have b:Hid (JL a d=false):=QnS (by omega);go_enter Tryz.func124,Tryz.ntmps124;go_wp2;go_ret;exact ⟨ZD b.out.symm,rfl⟩
 have b:Hid (JL a d=false):=QqK (by omega);go_enter Tryz.func124,Tryz.ntmps124;go_wp2;go_ret;exact ⟨ZD b.out.symm,rfl⟩
def JW (w:World) (ao:Option Addr) (n:Nat) (nm vl:Nat->ByteArray):Prop :=
 ∀ j,j<n->∃ b a,ao=some (Xa b a)/\b<w.heap.size/\w.cell? (Xa b (a+j*2))=some (.string (nm j))/\w.cell? (Xa b (a+j*2+1))=some (.string (vl j))/\(nm j).size<=maxLen/\(vl j).size<=maxLen
theorem QqF (ao:Option Addr) (n c:Nat) (nm vl:Nat->ByteArray) (w:World) (G:n<=maxLen) (v:JW w ao n nm vl) : Xl 165 #[.slice ao n c] w λe w'=>e=.returned (.bool (JJ n nm vl))/\Xb w w':=by
 unfold maxLen at G;by_cases x:5<n
 ·have H:Hid (JJ n nm vl=false):=QnU x;clear v;go_enter Tryz.func165,Tryz.ntmps165;go_wp2;go_ret;exact ⟨ZD H.out.symm,Below.refl _ _⟩
 have x:n<=5:=by omega
 have z:Hid (JW w ao n nm vl):=v;clear v;go_enter Tryz.func165,Tryz.ntmps165;go_wp2;go_loopw [3,4,10] (λ_ _ i wr=>∃ k:Nat,k<=n/\i=Xi k/\Hid (∀ j,j<k->Ju nm vl j=true)/\Xb w wr) (λ_ _ i _=>n-(intOf i).toNat);·exact ⟨0,Nat.zero_le _,rfl,λj h=>absurd h (Nat.not_lt_zero _),Below.refl _ _⟩
 case round =>
  obtain ⟨k,M,rfl,g,l⟩:=hrel;by_cases r:k<n
  ·obtain ⟨b,u,rfl,s,A,B,p,t⟩:=z.out k r;have I:=(Xh l b (u+k*2) s).trans A;have J:=(Xh l b (u+k*2+1) s).trans B;clear A B;have o:Xb w ((wr.alloc (.cells #[.string (nm k),.string (vl k)] 96))):=l.alloc l.size _;by_cases a:QR (nm k)=true
   ·by_cases d:Zx (vl k)=true
    ·by_cases K:k=0
     ·subst K;simp only [Nat.zero_mul,Nat.add_zero] at I J;have y:Hid (∀ j,j<0+1->Ju nm vl j=true):=QhD g.out (Qhg a d);have f:=Qa a;have m:=Qa d;clear a d g;go_wp2;go_big_quiet (first|(go_at_call 144;exact Calls.quiet_of_same (QaT _ true (Qb f) p _))|(go_at_call 145;exact Calls.quiet_of_same (QbX _ true (Qb m) t _)));go_wp2;go_roundw;·exact ⟨1,by omega,by go_num,y,QL o _⟩
      simp [intOf];omega
     obtain ⟨N,O,e',_,C,_,_,_⟩:=z.out (k-1) (by omega);cases e';have L:0<k:=by omega
     have q0:∀ E,(wr.alloc E).cell? (Xa b (u+(k-1)*2))=some (.string (nm (k-1))):=λE => (World.cell?_alloc_lt _ _ _ (Nat.lt_of_lt_of_le s l.size)).trans ((Xh l b (u+(k-1)*2) s).trans C);clear C;cases D:Op.bytesLess (nm (k-1)).toList (nm k).toList with
     | true =>
      have y:Hid (∀ j,j<k+1->Ju nm vl j=true):=QhD g.out (Qhk a d D);have f:=Qa a;have m:=Qa d;clear a d g;go_wp2;go_big_quiet (first|(go_at_call 144;exact Calls.quiet_of_same (QaT _ true (Qb f) p _))|(go_at_call 145;exact Calls.quiet_of_same (QbX _ true (Qb m) t _)));go_wp2;go_roundw;·exact ⟨k+1,by omega,by go_num,y,QL o _⟩
      simp [intOf];omega
     | false =>have q:Hid (JJ n nm vl=false):=Qg2 r (Qua (by omega) D);have f:=Qa a;have m:=Qa d;clear a d g;go_wp2;go_big_quiet (first|(go_at_call 144;exact Calls.quiet_of_same (QaT _ true (Qb f) p _))|(go_at_call 145;exact Calls.quiet_of_same (QbX _ true (Qb m) t _)));go_wp2;go_ret;exact ⟨ZD q.out.symm,QL o _⟩
    have q:Hid (JJ n nm vl=false):=Qg2 r (Qt0 (by simpa using d));have f:=Qa a;have m:Hid (Zx (vl k)=false):=Qa (by simpa using d);clear a d g;go_wp2;go_big_quiet (first|(go_at_call 144;exact Calls.quiet_of_same (QaT _ true (Qb f) p _))|(go_at_call 145;exact Calls.quiet_of_same (QbX _ false (Qb m) t _)));go_wp2;go_ret;exact ⟨ZD q.out.symm,QL o _⟩
   have q:Hid (JJ n nm vl=false):=Qg2 r (Qnp (by simpa using a));have f:Hid (QR (nm k)=false):=Qa (by simpa using a);clear a g;go_wp2;go_quiet ((go_at_call 144;exact Calls.quiet_of_same (QaT _ false (Qb f) p _)));go_wp2;go_ret;exact ⟨ZD q.out.symm,QL o _⟩
  have F:Hid (k=n):=show k=n by omega
  go_wp2;go_ret;exact ⟨ZD (QgJ x λj P=>g.out j (by have:=F.out;omega)).symm,l⟩
structure Qd where
 d:Int
 t:ByteArray
 k:Int
 ao:Option Addr
 an:Nat
 ac:Nat
 x:ByteArray
 nm:Nat->ByteArray
 vl:Nat->ByteArray
def Qd.val (n:Qd):Value:=.agg #[Xi n.d,.string n.t,Xi n.k,.slice n.ao n.an n.ac,.string n.x]
structure Qd.Ok (w:World) (n:Qd):Prop where
 an:n.an<=maxLen
 t:n.t.size<=maxLen
 x:n.x.size<=maxLen
 at':JW w n.ao n.an n.nm n.vl
theorem JW.below {w w':World} {ao:Option Addr} {n:Nat} {nm vl:Nat->ByteArray} (h:JW w ao n nm vl) (hb:Xb w w'):JW w' ao n nm vl:=by intro j c;obtain ⟨b,k,e,a,d,f,g,i⟩:=h j c;exact ⟨b,k,e,Nat.lt_of_lt_of_le a hb.size,(Xh hb b _ a).trans d,(Xh hb b _ a).trans f,g,i⟩
theorem Qd.Ok.below {w w':World} {n:Qd} (h:n.Ok w) (hb:Xb w w'):n.Ok w':=⟨h.an,h.t,h.x,h.at'.below hb⟩
def Q8 (n:Qd):Bool:=QR n.t&&n.x.toList.isEmpty&&decide (0<=n.k)&&JJ n.an n.nm n.vl
def Zz (n:Qd):Bool:=n.t.toList.isEmpty&&decide (n.k=0)&&decide (n.an=0)&&Zx n.x
theorem Qn8 (n:Qd) (b:Bool) (hb:JJ n.an n.nm n.vl=b) (w:World) (a:n.an<=maxLen) (c:JW w n.ao n.an n.nm n.vl) : Xl 165 #[.slice n.ao n.an n.ac] w λe w'=>e=.returned (.bool b)/\Xb w w':=by subst hb;exact QqF _ _ _ _ _ _ a c
theorem Qf9 (n:Qd) (w:World) (h:n.Ok w) : Xl 123 #[n.val] w λe w'=>e=.returned (.bool (Q8 n))/\Xb w w':=by
 have d:∀ c,Xb w (w.alloc c):=λc=>(Below.refl _ _).alloc (Nat.le_refl _) c;have p:∀ c,Hid (JW (w.alloc c) n.ao n.an n.nm n.vl):=λc=>h.at'.below (d c);obtain ⟨q,g,r,_⟩:=h;unfold Qd.val;cases a:QR n.t with
 | false =>have b:Hid (Q8 n=false):=Qa (by unfold Q8;rw [a];rfl);have f:=Qa a;clear a;go_enter Tryz.func123,Tryz.ntmps123;go_wp2_with (go_at_call 144;refine (QaT _ false (Qb f) g _).mono ?_;rintro e w' ⟨rfl,rfl⟩);go_ret;exact ⟨ZD b.out.symm,d _⟩
 | true =>
  have f:=Qa a;cases i:n.x.toList.isEmpty with
  | false =>have b:Hid (Q8 n=false):=Qa (by unfold Q8;rw [i];simp);clear a;go_enter Tryz.func123,Tryz.ntmps123;go_wp2_with (go_at_call 144;refine (QaT _ true (Qb f) g _).mono ?_;rintro e w' ⟨rfl,rfl⟩);go_ret;exact ⟨ZD b.out.symm,d _⟩
  | true =>
   by_cases j:0<=n.k
   ·cases l:JJ n.an n.nm n.vl;all_goals have b:Hid (Q8 n=JJ n.an n.nm n.vl):=Qa (by unfold Q8;rw [a,i,decide_eq_true j];rfl);have m:=Qa l;clear a l;go_enter Tryz.func123,Tryz.ntmps123;go_wp2_with (first|(go_at_call 144;refine (QaT _ true (Qb f) g _).mono ?_;rintro e w' ⟨rfl,rfl⟩)|(go_at_call 165;refine (Qn8 n _ (Qb m) _ q (Qb (p _))).mono ?_;rintro e w2 ⟨rfl,o⟩));go_ret;exact ⟨ZD (by rw [b.out,m.out]),(d _).trans (o.mono (by simp))⟩
   have b:Hid (Q8 n=false):=Qa (by unfold Q8;rw [decide_eq_false j];simp);clear a;go_enter Tryz.func123,Tryz.ntmps123;go_wp2_with (go_at_call 144;refine (QaT _ true (Qb f) g _).mono ?_;rintro e w' ⟨rfl,rfl⟩);go_ret;exact ⟨ZD b.out.symm,d _⟩
theorem Qg9 (n:Qd) (w:World) (h:n.Ok w) : Xl 125 #[n.val] w λe w'=>e=.returned (.bool (Zz n))/\Xb w w':=by
 have d:∀ f,Xb w (w.alloc f):=λf=>(Below.refl _ _).alloc (Nat.le_refl _) f;obtain ⟨m,o,j,_⟩:=h;unfold Qd.val;cases g:n.t.toList.isEmpty with
 | false =>have b:Hid (Zz n=false):=Qa (by unfold Zz;rw [g];simp);go_enter Tryz.func125,Tryz.ntmps125;go_wp2;go_ret;exact ⟨ZD b.out.symm,d _⟩
 | true =>
  by_cases a:n.k=0
  ·by_cases c:n.an=0
   ·have b:Hid (Zz n=Zx n.x):=Qa (by unfold Zz;rw [g,decide_eq_true a,decide_eq_true c];rfl);have i:(n.k==0)=true:=by simp [a]
    have l:((n.an:Int)==0)=true:=by simp [c]
    clear a c;go_enter Tryz.func125,Tryz.ntmps125;go_wp2_with (go_at_call 145;refine (Qk3 _ _ j).mono ?_;rintro e w' ⟨rfl,rfl⟩);go_ret;exact ⟨ZD (by rw [b.out]),d _⟩
   have b:Hid (Zz n=false):=Qa (by unfold Zz;rw [decide_eq_false c];simp);have i:(n.k==0)=true:=by simp [a]
   have l:((n.an:Int)==0)=false:=by simp;omega
   clear a c;go_enter Tryz.func125,Tryz.ntmps125;go_wp2;go_ret;exact ⟨ZD b.out.symm,d _⟩
  have b:Hid (Zz n=false):=Qa (by unfold Zz;rw [decide_eq_false a];simp);have i:(n.k==0)=false:=by simp [a]
  clear a;go_enter Tryz.func125,Tryz.ntmps125;go_wp2;go_ret;exact ⟨ZD b.out.symm,d _⟩
structure QeY (w:World) (b p:Nat) (n:Qd):Prop where
 c0:w.cell? (Xa b p)=some (Xi n.d)
 c1:w.cell? (Xa b (p+1))=some (.string n.t)
 c2:w.cell? (Xa b (p+2))=some (Xi n.k)
 c3:w.cell? (Xa b (p+3))=some (.slice n.ao n.an n.ac)
 c4:w.cell? (Xa b (p+4))=some (.string n.x)
 ok:n.Ok w
structure QbB (w:World) (b o n:Nat) (L:Nat->Qd):Prop where
 lt:b<w.heap.size
 node:∀ i,i<n->QeY w b (o+i*5) (L i)
theorem QeY.below {w w':World} {b p:Nat} {n:Qd} (h:QeY w b p n) (a:b<w.heap.size) (hb:Xb w w'):QeY w' b p n := ⟨(Xh hb b _ a).trans h.c0,(Xh hb b _ a).trans h.c1,(Xh hb b _ a).trans h.c2,(Xh hb b _ a).trans h.c3,(Xh hb b _ a).trans h.c4,h.ok.below hb⟩
theorem QbB.below {w w':World} {b a n:Nat} {L:Nat->Qd} (h:QbB w b a n L) (hb:Xb w w'):QbB w' b a n L := ⟨Nat.lt_of_lt_of_le h.lt hb.size,λi c=>(h.node i c).below h.lt hb⟩
def Z1 (L:Nat->Qd) (i:Nat):Nat->Bool
 | 0=>false
 | j+1=>if (L j).d<(L i).d then !(L j).t.toList.isEmpty else if (L i).k≠0/\(L j).d=(L i).d/\(L j).k=(L i).k then false else Z1 L i j
theorem QhM {L:Nat->Qd} {i j:Nat} (h:(L j).d<(L i).d):Z1 L i (j+1)=!(L j).t.toList.isEmpty:=by rw [Z1,if_pos h]
theorem Qkc {L:Nat->Qd} {i j:Nat} (h:¬ (L j).d<(L i).d) (a:(L i).k≠0) (b:(L j).d=(L i).d) (c:(L j).k=(L i).k):Z1 L i (j+1)=false:=by rw [Z1,if_neg h,if_pos ⟨a,b,c⟩]
theorem QeP {L:Nat->Qd} {i j:Nat} (h:¬ (L j).d<(L i).d) (a:¬ ((L i).k≠0/\(L j).d=(L i).d/\(L j).k=(L i).k)):Z1 L i (j+1)=Z1 L i j:=by rw [Z1,if_neg h,if_neg a]
theorem Qjy (b u n c:Nat) (L:Nat->Qd) (i:Nat) (w:World) (v:n<=maxLen) (y:i<n) (h:QbB w b u n L) : Xl 126 #[.slice (some (Xa b u)) n c,Xi i] w λe w'=>e=.returned (.bool (Z1 L i i))/\Xb w w':=by
 unfold maxLen at v;have C:=Qa h;have hb:=h.lt;obtain ⟨F,G,H,I,J,_⟩:=h.node i y;clear h;go_enter Tryz.func126,Tryz.ntmps126;go_wp2;go_loopw [6] (λj wr=>∃ m q:Nat,m<=i/\j=Xi ((m:Int)-1)/\Hid (Z1 L i m=Z1 L i i)/\wr=(w.alloc (.cells #[Xi (L i).d,.string (L i).t,Xi (L i).k,.slice (L i).ao (L i).an (L i).ac,.string (L i).x] 47)).drewN q) (λj _=>(intOf j+1).toNat);·exact ⟨i,0,Nat.le_refl _,rfl,rfl,rfl⟩
 case round =>
  obtain ⟨m,q,K,rfl,a,rfl⟩:=hrel;cases m with
  | zero =>go_wp2;go_ret;exact ⟨ZD a.out,QL Xd _⟩
  | succ p =>
   have e:(((p+1:Nat):Int)-1)=p:=by omega
   rw [e];clear e;obtain ⟨M,N,O,_,_,_⟩:=C.out.node p (by omega);have D:b≠w.heap.size:=by omega
   have s:∀ q,Xb w ((w.alloc (.cells #[Xi (L i).d,.string (L i).t,Xi (L i).k,.slice (L i).ao (L i).an (L i).ac,.string (L i).x] 47)).drewN q):=λq=>QL Xd _;by_cases f:(L p).d<(L i).d
   ·have g:=Qa (a.out.symm.trans (QhM f));clear a;go_wp2;go_big_quiet (fail);go_wp2;go_ret;exact ⟨ZD g.out.symm,s _⟩
   have E:(L i).d<=(L p).d:=by omega
   by_cases l:(L i).k=0
   ·have g:=Qa ((QeP f (by intro h;exact h.1 l)).symm.trans a.out);have z:((L i).k !=0)=false:=by simp [l]
    clear a l f;go_wp2;go_big_quiet (fail);go_wp2;go_big_quiet (fail);go_wp2;go_roundw;·exact ⟨p,_,by omega,by go_num,g,rfl⟩
    simp [intOf]
   have z:((L i).k !=0)=true:=by simp [l]
   by_cases o:(L p).d=(L i).d
   ·have A:((L p).d==(L i).d)=true:=by simp [o]
    by_cases r:(L p).k=(L i).k
    ·have g:=Qa (a.out.symm.trans (Qkc f l o r));have B:((L p).k==(L i).k)=true:=by simp [r]
     clear a l f o r;go_wp2;go_big_quiet (fail);go_wp2;go_big_quiet (fail);go_wp2;go_ret;exact ⟨ZD g.out.symm,QL (QL (s _) _) _⟩
    have g:=Qa ((QeP f (by intro h;exact r h.2.2)).symm.trans a.out);have B:((L p).k==(L i).k)=false:=by simp [r]
    clear a l f o r;go_wp2;go_big_quiet (fail);go_wp2;go_big_quiet (fail);go_wp2;go_roundw;·exact ⟨p,_,by omega,by go_num,g,rfl⟩
    simp [intOf]
   have g:=Qa ((QeP f (by intro h;exact o h.2.1)).symm.trans a.out);have A:((L p).d==(L i).d)=false:=by simp [o]
   clear a l f o;go_wp2;go_big_quiet (fail);go_wp2;go_big_quiet (fail);go_wp2;go_roundw;·exact ⟨p,_,by omega,by go_num,g,rfl⟩
   simp [intOf]
structure Ext (w:World) where
 to:World
 below:Xb w to
theorem Qf0 {P:Program} {id:Nat} {b:Exit->Act->World->Prop} {a:Act} {w:World} {l:List Oper} (c:P.follows .mixedOrders=true) (d:Region.lexB .any l.toArray=true) (h:wpQuiet P l.toArray (λw'=>∃ g:Ext w,w'=g.to) (λf=>∀ w',(∃ g:Ext w,w'=g.to)->b .normal f w') l a):(Code.region id l.toArray true).wp P b a w := wp_region_quiet (C:=λw'=>∃ g:Ext w,w'=g.to) c d ⟨⟨w.drew,(Below.refl _ _).drew⟩,rfl⟩ (by simpa using h)
theorem Qdk {P:Program} {f:FuncId} {args:Array Value} {w:World} {g:Ext w} {v:Value} (h:Calls P f args g.to λe w'=>e=.returned v/\Xb g.to w'):Calls P f args g.to λe a=>e=.returned v/\∃ b:Ext w,a=b.to := h.mono λ_ w' ⟨c,hb⟩=>⟨c,⟨⟨w',g.below.trans (hb.mono g.below.size)⟩,rfl⟩⟩
theorem QfT {P:Program} {f:FuncId} {args:Array Value} {w:World} {g:Ext w} {v:Value} (h:Calls P f args g.to λe w'=>e=.returned v/\w'=g.to):Calls P f args g.to λe a=>e=.returned v/\∃ b:Ext w,a=b.to := h.mono λ_ _ ⟨c,hb⟩=>⟨c,⟨g,hb⟩⟩
theorem QfO (n:Qd) (r:Bool) (a:Q8 n=r) (w:World) (h:n.Ok w) : Xl 123 #[.agg #[Xi n.d,.string n.t,Xi n.k,.slice n.ao n.an n.ac,.string n.x]] w λe w'=>e=.returned (.bool r)/\Xb w w':=by subst a;exact Qf9 n w h
theorem Qlg (n:Qd) (r:Bool) (a:Zz n=r) (w:World) (h:n.Ok w) : Xl 125 #[.agg #[Xi n.d,.string n.t,Xi n.k,.slice n.ao n.an n.ac,.string n.x]] w λe w'=>e=.returned (.bool r)/\Xb w w':=by subst a;exact Qg9 n w h
theorem Qgr (a d:Int) (r:Bool) (b:JL a d=r) (w:World) (c:0<=a) (f:a<=11) : Xl 124 #[Xi a,Xi d] w λe w'=>e=.returned (.bool r)/\w'=w:=by subst b;exact Qsi a d w c f
def QQ (L:Nat->Qd) (i:Nat):Bool :=
 if i=0 then decide ((L 0).d=0)&&Q8 (L 0) else JL (L (i-1)).d (L i).d&&(Q8 (L i)||Zz (L i))&&Z1 L i i
theorem Qtq (b i n c:Nat) (L:Nat->Qd) (w:World) (_hn:n<=maxLen) (k:0<n) (h:QbB w b i n L) : Xl 93 #[.slice (some (Xa b i)) n c,Xi 0] w λe w'=>e=.returned (.bool (QQ L 0))/\Xb w w':=by
 obtain ⟨l,m,o,p,q,g⟩:=h.node 0 k;simp only [Nat.zero_mul,Nat.add_zero] at l m o p q;have r:=Qa g;clear h g;by_cases a:(L 0).d=0
 ·have f:Hid (QQ L 0=Q8 (L 0)):=Qa (by unfold QQ;rw [if_pos rfl,decide_eq_true a];rfl);have s:((L 0).d==0)=true:=by simp [a]
  clear a;go_enter Tryz.func93,Tryz.ntmps93;go_wp2_with (go_at_call 123;refine (QfO (L 0) _ rfl _ (Qb r)).mono ?_;rintro e w' ⟨rfl,j⟩);go_ret;exact ⟨ZD f.out.symm,j⟩
 have f:Hid (QQ L 0=false):=Qa (by unfold QQ;rw [if_pos rfl,decide_eq_false a];rfl);have s:((L 0).d==0)=false:=by simp [a]
 clear a;go_enter Tryz.func93,Tryz.ntmps93;go_wp2;go_ret;exact ⟨ZD f.out.symm,Below.refl _ _⟩
theorem Qsm (b l n c:Nat) (L:Nat->Qd) (i:Nat) (w:World) (A:n<=maxLen) (C:0<i) (f:i<n) (h:QbB w b l n L) (v:0<=(L (i-1)).d) (y:(L (i-1)).d<=11) : Xl 93 #[.slice (some (Xa b l)) n c,Xi i] w λe w'=>e=.returned (.bool (QQ L i))/\Xb w w':=by
 have B:=Qa A;unfold maxLen at A;have a:Hid (∀ g:Ext w,QbB g.to b l n L):=Qa (λg=>h.below g.below);have E:∀ g:Ext w,Xc g.to b (l+i*5) (Xi (L i).d):=λg=>((Qb a g).node i f).c0;have F:∀ g:Ext w,Xc g.to b (l+i*5+1) (.string (L i).t):=λg=>((Qb a g).node i f).c1;have G:∀ g:Ext w,Xc g.to b (l+i*5+2) (Xi (L i).k):=λg=>((Qb a g).node i f).c2;have H:∀ g:Ext w,Xc g.to b (l+i*5+3) (.slice (L i).ao (L i).an (L i).ac):=λg=>((Qb a g).node i f).c3;have I:∀ g:Ext w,Xc g.to b (l+i*5+4) (.string (L i).x):=λg=>((Qb a g).node i f).c4;have J:∀ g:Ext w,Xc g.to b (l+(i-1)*5) (Xi (L (i-1)).d):=λg=>((Qb a g).node (i-1) (by omega)).c0;clear h;have K:((i:Int)==0)=false:=by simp;omega
 have D:Nonempty (Ext w):=⟨⟨w,Below.refl _ _⟩⟩;cases j:JL (L (i-1)).d (L i).d with
 | false =>
  have q:Hid (QQ L i=false):=Qa (by unfold QQ;rw [if_neg (by omega),j];rfl);have r:=Qa j;clear j;go_enter Tryz.func93,Tryz.ntmps93;go_wp2;refine Qf0 (by kernel_rfl) (by kernel_rfl) ?_;repeat (go_big_quiet_step ((go_at_call 124;exact QfT (Qgr _ _ _ (Qb r) _ v y))))
  refine wpQuiet_nil ?_;intro _ p;obtain ⟨g,o⟩:=p;subst o;go_wp2;go_ret;exact ⟨ZD q.out.symm,g.below⟩
 | true =>
  cases m:Q8 (L i) with
  | true =>
   have q:Hid (QQ L i=Z1 L i i):=Qa (by unfold QQ;rw [if_neg (by omega),j,m];simp);have r:=Qa j;have u:=Qa m;clear j m;go_enter Tryz.func93,Tryz.ntmps93;go_wp2;refine Qf0 (by kernel_rfl) (by kernel_rfl) ?_;repeat (go_big_quiet_step (first|(go_at_call 124;exact QfT (Qgr _ _ _ (Qb r) _ v y))|(go_at_call 123;exact Qdk (QfO (L i) _ (Qb u) _ ((Qb a _).node i f).ok))|(go_at_call 126;exact Qdk (Qjy b l n c L i _ (Qb B) f (Qb a _)))))
   refine wpQuiet_nil ?_;intro _ p;obtain ⟨g,o⟩:=p;subst o;go_wp2;go_ret;exact ⟨ZD q.out.symm,g.below⟩
  | false =>
   cases s:Zz (L i) with
   | true =>
    have q:Hid (QQ L i=Z1 L i i):=Qa (by unfold QQ;rw [if_neg (by omega),j,m,s];simp);have r:=Qa j;have u:=Qa m;have z:=Qa s;clear j m s;go_enter Tryz.func93,Tryz.ntmps93;go_wp2;refine Qf0 (by kernel_rfl) (by kernel_rfl) ?_;repeat (go_big_quiet_step (first|(go_at_call 124;exact QfT (Qgr _ _ _ (Qb r) _ v y))|(go_at_call 123;exact Qdk (QfO (L i) _ (Qb u) _ ((Qb a _).node i f).ok))|(go_at_call 125;exact Qdk (Qlg (L i) _ (Qb z) _ ((Qb a _).node i f).ok))|(go_at_call 126;exact Qdk (Qjy b l n c L i _ (Qb B) f (Qb a _)))))
    refine wpQuiet_nil ?_;intro _ p;obtain ⟨g,o⟩:=p;subst o;go_wp2;go_ret;exact ⟨ZD q.out.symm,g.below⟩
   | false =>
    have q:Hid (QQ L i=false):=Qa (by unfold QQ;rw [if_neg (by omega),m,s];simp);have r:=Qa j;have u:=Qa m;have z:=Qa s;clear j m s;go_enter Tryz.func93,Tryz.ntmps93;go_wp2;refine Qf0 (by kernel_rfl) (by kernel_rfl) ?_;repeat (go_big_quiet_step (first|(go_at_call 124;exact QfT (Qgr _ _ _ (Qb r) _ v y))|(go_at_call 123;exact Qdk (QfO (L i) _ (Qb u) _ ((Qb a _).node i f).ok))|(go_at_call 125;exact Qdk (Qlg (L i) _ (Qb z) _ ((Qb a _).node i f).ok))))
    refine wpQuiet_nil ?_;intro _ p;obtain ⟨g,o⟩:=p;subst o;go_wp2;go_ret;exact ⟨ZD q.out.symm,g.below⟩
def QcM (a:Nat->Bool) (n:Nat):Int × Int:=match (List.range n).find? (λi=>!a i) with
 | some i=>(2,i)
 | none=>(0,0)
theorem Qtj {b:Nat->Bool} {n k:Nat} (g:k<n) (h:∀ j,j<k->b j=true) (hb:b k=false):QcM b n=(2,(k:Int)):=by
 unfold QcM;have:(List.range n).find? (λi=>!b i)=some k:=by
  rw [find?_eq_some_iff_append];refine ⟨by simp [hb],List.range k,(List.range (n-k-1)).map (k+1+·),?_,?_⟩
  ·have c:List.range n=List.range (k+(n-k)):=by congr 1;omega
   have d:n-k=(n-k-1)+1:=by omega
   rw [c,range_add,d,range_succ_eq_map];simp [Function.comp_def,Nat.add_assoc,Nat.add_comm 1]
  intro a f;simp [h a (mem_range.1 f)]
 rw [this]
theorem Qqq {b:Nat->Bool} {n:Nat} (h:∀ j,j<n->b j=true):QcM b n=(0,0):=by
 unfold QcM;have:(List.range n).find? (λi=>!b i)=none:=by rw [find?_eq_none];intro a c;simp [h a (mem_range.1 c)]
 rw [this]
def J8 (a:Nat->Bool) (n:Nat):Int × Int:=if n<1 \/ 400<n then (1,0) else QcM a n
def QaU (w:World) (ao:Option Addr) (n:Nat) (L:Nat->Qd):Prop:=0<n->∃ b a,ao=some (Xa b a)/\QbB w b a n L
theorem QaU.below {w w':World} {ao:Option Addr} {n:Nat} {L:Nat->Qd} (h:QaU w ao n L) (hb:Xb w w'):QaU w' ao n L:=λa =>
 let ⟨b,o,e,g⟩:=h a
 ⟨b,o,e,g.below hb⟩
theorem Qki {L:Nat->Qd} {j:Nat} (h:QQ L j=true):0<=(L j).d/\(L j).d<=11:=by
 unfold QQ at h;split at h
 ·next e=>subst e;simp at h;omega
 simp [JL] at h;omega
theorem Qg4 {a b:Int} {p:Int × Int} (h:p=(a,b)):Ending.returned (.tuple #[Xi a,Xi b])=.returned (.tuple #[Xi p.1,Xi p.2]):=by rw [h]
theorem QmH (b a n c:Nat) (L:Nat->Qd) (i:Nat) (r:Bool) (l:QQ L i=r) (w:World) (d:n<=maxLen) (f:i<n) (h:QbB w b a n L) (k:∀ j,j<i->QQ L j=true) : Xl 93 #[.slice (some (Xa b a)) n c,Xi i] w λe w'=>e=.returned (.bool r)/\Xb w w':=by
 subst l;by_cases m:i=0
 ·subst m;exact Qtq b a n c L w d f h
 have g:=Qki (k (i-1) (by omega));exact Qsm b a n c L i w d (by omega) f h g.1 g.2
theorem QgK (ao:Option Addr) (n c:Nat) (L:Nat->Qd) (w:World) (r:n<=maxLen) (h:QaU w ao n L) : Xl 59 #[.slice ao n c] w λe w'=>e=.returned (.tuple #[Xi (J8 (QQ L) n).1,Xi (J8 (QQ L) n).2])/\Xb w w':=by
 have s:=Qa r;unfold maxLen at r;by_cases hb:n<1 \/ 400<n
 ·have l:Hid (J8 (QQ L) n=(1,0)):=Qa (by unfold J8;rw [if_pos hb]);clear h;rcases hb with hb|hb;all_goals go_enter Tryz.func59,Tryz.ntmps59;go_wp2;go_ret2;exact ⟨Qg4 l.out,Below.refl _ _⟩
 have x:1<=n:=by omega
 have y:n<=400:=by omega
 have l:Hid (J8 (QQ L) n=QcM (QQ L) n):=Qa (by unfold J8;rw [if_neg hb]);clear hb;obtain ⟨b,u,rfl,t⟩:=h (by omega);have v:=Qa t;clear h t;go_enter Tryz.func59,Tryz.ntmps59;go_wp2;go_loopw [4,15] (λ_ i wr=>∃ k:Nat,k<=n/\i=Xi k/\Hid (∀ j,j<k->QQ L j=true)/\Xb w wr) (λ_ i _=>n-(intOf i).toNat);·exact ⟨0,Nat.zero_le _,rfl,Qa (λj h=>absurd h (Nat.not_lt_zero _)),Below.refl _ _⟩
 case round =>
  obtain ⟨k,z,rfl,f,a⟩:=hrel;by_cases m:k<n
  ·have q:=Qa (v.out.below a);cases d:QQ L k with
   | true =>
    have g:=Qa (QhD f.out d);have p:=Qa d;clear d;go_wp2_with (go_at_call 93;refine (QmH b u n c L k true (Qb p) _ (Qb s) m (Qb q) (Qb f)).mono ?_;rintro e w2 ⟨rfl,o⟩);go_roundw;·exact ⟨k+1,by omega,by go_num,g,a.trans (o.mono a.size)⟩
    simp [intOf];omega
   | false =>have g:=Qa (l.out.trans (Qtj m f.out d));have p:=Qa d;clear d;go_wp2_with (go_at_call 93;refine (QmH b u n c L k false (Qb p) _ (Qb s) m (Qb q) (Qb f)).mono ?_;rintro e w2 ⟨rfl,o⟩);go_ret2;exact ⟨Qg4 g.out,a.trans (o.mono a.size)⟩
  have g:=Qa (l.out.trans (Qqq λj A=>f.out j (by omega)));go_wp2;go_ret2;exact ⟨Qg4 g.out,a⟩
def QbY (n:Qd):Bool:=Q8 n||Zz n
theorem QlF {s:ByteArray} (h:s.toList.isEmpty=true):QR s=false:=by
 apply Qks;have b:s.toList=[]:=by simpa using h
 have a:s.toList.length=s.size:=by rw [ByteArray.toList_eq,Array.length_toList];rfl
 rw [b] at a;simp at a;omega

def ZF (L:Nat->Qd) (i:Nat):Nat->Int
 | 0=>-1
 | j+1=>if (L j).d=(L i).d-1 then (j:Int) else ZF L i j
theorem Qm1 (f:Nat->Int) (x:Int):∀ i,0<i->f 0<x->∃ p,p<i/\f p<x/\∀ j,p<j->j<i->x<=f j:=by
 intro i;induction i with
 | zero=>intro h;exact absurd h (Nat.lt_irrefl _)
 | succ i ih =>
  intro _ a;by_cases b:f i<x
  ·exact ⟨i,Nat.lt_succ_self _,b,λj d c=>by omega⟩
  by_cases g:i=0
  ·subst g;exact absurd a b
  obtain ⟨p,d,c,k⟩:=ih (by omega) a;refine ⟨p,by omega,c,λj l m=>?_⟩;by_cases e:j=i
  ·subst e;omega
  exact k j l (by omega)
theorem QeR {L:Nat->Qd} (h:QQ L 0=true):(L 0).d=0:=by unfold QQ at h;rw [if_pos rfl] at h;simp at h;exact h.1
theorem QpO {L:Nat->Qd} {j:Nat} (h:QQ L (j+1)=true):(L (j+1)).d<=(L j).d+1:=by unfold QQ at h;rw [if_neg (by omega)] at h;simp [JL] at h;omega
structure Par (L:Nat->Qd) (i p:Nat):Prop where
 lt:p<i
 up:(L p).d=(L i).d-1
 deep:∀ j,p<j->j<i->(L i).d<=(L j).d
theorem Qhd {L:Nat->Qd} {i:Nat} (f:0<i) (c:∀ j,j<i->QQ L j=true) (m:1<=(L i).d) (k:(L i).d<=(L (i-1)).d+1):∃ p,Par L i p:=by
 obtain ⟨p,l,g,h⟩:=Qm1 (λj=>(L j).d) (L i).d i f (by show (L 0).d<_;have:=QeR (c 0 f);omega);refine ⟨p,l,?_,h⟩;have g:(L p).d<(L i).d:=g;by_cases e:p+1=i
 ·have:i-1=p:=by omega
  rw [this] at k;omega
 have a:=QpO (c (p+1) (by omega));have b:=h (p+1) (by omega) (by omega);have b:(L i).d<=(L (p+1)).d:=b;omega
theorem Par.parent {L:Nat->Qd} {i p:Nat} (h:Par L i p):ZF L i i=p:=by
 have a:∀ m,p<m->m<=i->ZF L i m=p:=by
  intro m;induction m with
  | zero=>intro h;omega
  | succ m ih =>
   intro b c;by_cases e:m=p
   ·subst e;rw [ZF,if_pos h.up]
   have:=h.deep m (by omega) (by omega);rw [ZF,if_neg (by omega)];exact ih (by omega) (by omega)
 exact a i h.lt (Nat.le_refl _)
theorem Par.back {L:Nat->Qd} {i p:Nat} (h:Par L i p):∀ m,p<m->m<=i->(∀ j,m<=j->j<i->¬ ((L i).k≠0/\(L j).d=(L i).d/\(L j).k=(L i).k))->Z1 L i i=Z1 L i m:=by
 intro m l f g;have c:∀ t,m<=t->t<=i->Z1 L i t=Z1 L i m:=by
  intro t;induction t with
  | zero=>intro a b;omega
  | succ t ih =>
   intro a b;by_cases e:m=t+1
   ·rw [e]
   have:=h.deep t (by omega) (by omega);rw [QeP (by omega) (g t (by omega) (by omega))];exact ih (by omega) (by omega)
 exact c i f (Nat.le_refl _)
theorem Par.good {L:Nat->Qd} {i p:Nat} (h:Par L i p) (c:∀ j,p<j->j<i->¬ ((L i).k≠0/\(L j).d=(L i).d/\(L j).k=(L i).k)):Z1 L i i=!(L p).t.toList.isEmpty:=by rw [h.back (p+1) (by omega) h.lt (λj a b=>c j (by omega) b),QhM];have:=h.up;omega
theorem Par.bad {L:Nat->Qd} {i p j:Nat} (h:Par L i p) (m:p<j) (g:j<i) (l:(L i).k≠0/\(L j).d=(L i).d/\(L j).k=(L i).k):Z1 L i i=false:=by
 have f:∀ t,j<t->t<=i->Z1 L i t=false:=by
  intro t;induction t with
  | zero=>intro a;omega
  | succ t ih =>
   intro a b;have n:=h.deep t (by omega) (by omega);by_cases c:(L i).k≠0/\(L t).d=(L i).d/\(L t).k=(L i).k
   ·exact Qkc (by omega) c.1 c.2.1 c.2.2
   rw [QeP (by omega) c];by_cases e:t=j
   ·subst e;exact absurd l c
   exact ih (by omega) (by omega)
 exact f i g (Nat.le_refl _)
theorem Par.text {L:Nat->Qd} {i p:Nat} (h:Par L i p) (f:(L p).t.toList.isEmpty=true):Z1 L i i=false:=by
 by_cases c:∃ j,p<j/\j<i/\((L i).k≠0/\(L j).d=(L i).d/\(L j).k=(L i).k)
 ·obtain ⟨j,g,l,m⟩:=c;exact h.bad g l m
 rw [h.good (λj a b d=>c ⟨j,a,b,d⟩),f];rfl
structure Qig (w:World) (b:Nat) (n:Qd):Prop where
 lt:b<w.heap.size
 c0:w.cell? (Xa b 0)=some (Xi n.d)
 c1:w.cell? (Xa b 1)=some (.string n.t)
 c2:w.cell? (Xa b 2)=some (Xi n.k)
theorem Qig.below {w w':World} {b:Nat} {n:Qd} (h:Qig w b n) (hb:Xb w w'):Qig w' b n := ⟨Nat.lt_of_lt_of_le h.lt hb.size,(Xh hb b _ h.lt).trans h.c0,(Xh hb b _ h.lt).trans h.c1,(Xh hb b _ h.lt).trans h.c2⟩

end Go.Proofs.YtobgcaemnpkbmaaGreatDoor
