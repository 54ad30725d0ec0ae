import Derived.Handy
import Derived.Test.YtobgcaemnpkbmaaGreatDoorC12
import Derived.Laws.StructEq
import Derived.ChangeKeysEq
import Derived.Test.YtobgcaemnpkbmaaGreatDoorC13
namespace Go.Proofs.YtobgcaemnpkbmaaGreatDoor
set_option maxRecDepth 100000
set_option maxHeartbeats 8000000
open Go.RowKit List
def PN.none:PN:=⟨0,0,⟨#[]⟩,0,⟨#[]⟩,[]⟩
def nth (R:List RN) (k:Nat):RN:=match R[k]? with|some n=>n|none=>PN.none.bare
theorem QaM {R:List RN} {k:Nat} (h:k<R.length):nth R k=R[k]:=by unfold nth;rw [getElem?_eq_getElem h]
open Classical in
noncomputable def insB (R:List RN) (x:Qn):Bool :=
 x.name.toList.isEmpty&&x.text.toList.isEmpty&&!(x.id==1)&&decide (0<=QX R x.par)&&!(nth R (QX R x.par).toNat).tag.toList.isEmpty &&
  (!(x.bef !=0)||(decide (0<=QX R x.bef)&&!((nth R (QX R x.bef).toNat).par !=x.par)&&!(x.bef==x.id)))&&!decide (QbQ R x.par x.id)
def Qd1 (x:Qn):Bool:=x.name.toList.isEmpty&&x.text.toList.isEmpty&&!(x.id==1)
def Qep (n:RN) (x:Qn):Bool:=x.name.toList.isEmpty&&decide ((x.text.size:Int)<=20)&&n.tag.toList.isEmpty
def QdN (n:RN) (x:Qn):Bool:=decide ((ZE n.ats x.name).length<n.ats.length)
def Qeg (n:RN) (x:Qn):Bool:=QR x.name&&!n.tag.toList.isEmpty&&decide ((x.text.size:Int)<=20)&&(QdN n x||decide (n.ats.length<5))
def QeA (n:RN) (x:Qn):Bool:=QR x.name&&!n.tag.toList.isEmpty&&decide ((x.text.size:Int)<=20)&&QdN n x&&x.text.toList.isEmpty
def ZG (R:List RN) (x:Qn):RN:=nth R (QX R x.id).toNat
noncomputable def canP (R:List RN) (last:Int) (x:Qn):Bool :=
 if (x.kind==1)=true then Qc5 R.length last x
 else decide (0<=QX R x.id)&&!(x.key !=0)&&x.tag.toList.isEmpty &&
  (if (x.kind==2)=true then insB R x
   else !(x.par !=0)&&!(x.bef !=0) &&
    (if (x.kind==3)=true then Qd1 x else if (x.kind==6)=true then Qep (ZG R x) x else if (x.kind==4)=true then Qeg (ZG R x) x else if (x.kind==5)=true then QeA (ZG R x) x else false))
def QU (R:List RN) (x:Qn):List RN :=
 if (x.kind==1)=true then R++[QfP x]
 else if (x.kind==2)=true then Q6 R { ZG R x with par:=x.par } (QX R x.id).toNat x.bef
 else if (x.kind==3)=true then rmP R (QF R R.length (QX R x.id).toNat 0)
 else if (x.kind==6)=true then R.set (QX R x.id).toNat { ZG R x with text:=x.text }
 else if (x.kind==4)=true then R.set (QX R x.id).toNat { ZG R x with ats:=ZZ (ZG R x).ats x.name x.text }
 else R.set (QX R x.id).toNat { ZG R x with ats:=ZE (ZG R x).ats x.name }
def Jr (last:Int) (x:Qn):Int:=if (x.kind==1)=true then x.id else last
theorem not_true {b:Bool} (h:¬ b=true):b=false:=by cases b<;>simp_all
def QI (x:Qn):Qn :=
 if x.kind=1 then ⟨x.kind,x.id,0,0,x.key,x.tag,⟨#[]⟩,x.text⟩
 else if x.kind=2 then ⟨x.kind,x.id,x.par,x.bef,0,⟨#[]⟩,⟨#[]⟩,⟨#[]⟩⟩
 else if x.kind=4 then ⟨x.kind,x.id,0,0,0,⟨#[]⟩,x.name,x.text⟩
 else if x.kind=5 then ⟨x.kind,x.id,0,0,0,⟨#[]⟩,x.name,⟨#[]⟩⟩
 else if x.kind=6 then ⟨x.kind,x.id,0,0,0,⟨#[]⟩,⟨#[]⟩,x.text⟩
 else ⟨x.kind,x.id,0,0,0,⟨#[]⟩,⟨#[]⟩,⟨#[]⟩⟩
theorem Qm7 (id pa bf a:Int) (tg nm b:ByteArray) (w:World) : Xl 101 #[.agg #[Xi 1,Xi id,Xi pa,Xi bf,Xi a,.string tg,.string nm,.string b]] w λe w'=>e=.returned (QI ⟨1,id,pa,bf,a,tg,nm,b⟩).val/\Xb w w':=by go_enter Tryz.func101,Tryz.ntmps101;go_wp2;go_region_held3 (λw'=>w'.cell? (Xa w.heap.size 5)=some (.string tg)/\w'.cell? (Xa w.heap.size 4)=some (Xi a)/\w'.cell? (Xa w.heap.size 7)=some (.string b)) (go_keep) (fail);go_wp2_with fail;go_returns;refine ⟨rfl,?_⟩;have c:=((Below.refl w.heap.size w).alloc (Nat.le_refl _) (.cells #[Xi 1,Xi id,Xi pa,Xi bf,Xi a,.string tg,.string nm,.string b] 60));exact ((c.alloc (by simp) _).alloc (by simp;omega) _).drew
theorem QqT (id pa bf a:Int) (tg nm b:ByteArray) (w:World) : Xl 101 #[.agg #[Xi 2,Xi id,Xi pa,Xi bf,Xi a,.string tg,.string nm,.string b]] w λe w'=>e=.returned (QI ⟨2,id,pa,bf,a,tg,nm,b⟩).val/\Xb w w':=by go_enter Tryz.func101,Tryz.ntmps101;go_wp2;go_region_held3 (λw'=>w'.cell? (Xa w.heap.size 2)=some (Xi pa)/\w'.cell? (Xa w.heap.size 3)=some (Xi bf)) (go_keep) (fail);go_wp2_with fail;go_returns;refine ⟨rfl,?_⟩;have c:=((Below.refl w.heap.size w).alloc (Nat.le_refl _) (.cells #[Xi 2,Xi id,Xi pa,Xi bf,Xi a,.string tg,.string nm,.string b] 60));exact ((c.alloc (by simp) _).alloc (by simp;omega) _).drew
theorem Qqx (id pa bf b:Int) (tg nm a:ByteArray) (w:World) : Xl 101 #[.agg #[Xi 4,Xi id,Xi pa,Xi bf,Xi b,.string tg,.string nm,.string a]] w λe w'=>e=.returned (QI ⟨4,id,pa,bf,b,tg,nm,a⟩).val/\Xb w w':=by go_enter Tryz.func101,Tryz.ntmps101;go_wp2;go_region_held3 (λw'=>w'.cell? (Xa w.heap.size 6)=some (.string nm)/\w'.cell? (Xa w.heap.size 7)=some (.string a)) (go_keep) (fail);go_wp2_with fail;go_returns;refine ⟨rfl,?_⟩;have c:=((Below.refl w.heap.size w).alloc (Nat.le_refl _) (.cells #[Xi 4,Xi id,Xi pa,Xi bf,Xi b,.string tg,.string nm,.string a] 60));exact ((c.alloc (by simp) _).alloc (by simp;omega) _).drew
theorem Qse (id pa bf a:Int) (tg nm b:ByteArray) (w:World) : Xl 101 #[.agg #[Xi 5,Xi id,Xi pa,Xi bf,Xi a,.string tg,.string nm,.string b]] w λe w'=>e=.returned (QI ⟨5,id,pa,bf,a,tg,nm,b⟩).val/\Xb w w':=by go_enter Tryz.func101,Tryz.ntmps101;go_wp2_with fail;go_returns;refine ⟨rfl,?_⟩;have c:=((Below.refl w.heap.size w).alloc (Nat.le_refl _) (.cells #[Xi 5,Xi id,Xi pa,Xi bf,Xi a,.string tg,.string nm,.string b] 60));exact ((c.alloc (by simp) _).alloc (by simp;omega) _)
theorem QrK (id pa bf a:Int) (tg nm b:ByteArray) (w:World) : Xl 101 #[.agg #[Xi 6,Xi id,Xi pa,Xi bf,Xi a,.string tg,.string nm,.string b]] w λe w'=>e=.returned (QI ⟨6,id,pa,bf,a,tg,nm,b⟩).val/\Xb w w':=by go_enter Tryz.func101,Tryz.ntmps101;go_wp2_with fail;go_returns;refine ⟨rfl,?_⟩;have c:=((Below.refl w.heap.size w).alloc (Nat.le_refl _) (.cells #[Xi 6,Xi id,Xi pa,Xi bf,Xi a,.string tg,.string nm,.string b] 60));exact ((c.alloc (by simp) _).alloc (by simp;omega) _)
theorem QnB (a id pa bf b:Int) (tg nm c:ByteArray) (w:World) (f:a≠1) (g:a≠2) (h:a≠4) (i:a≠5) (j:a≠6) : Xl 101 #[.agg #[Xi a,Xi id,Xi pa,Xi bf,Xi b,.string tg,.string nm,.string c]] w λe w'=>e=.returned (QI ⟨a,id,pa,bf,b,tg,nm,c⟩).val/\Xb w w':=by go_enter Tryz.func101,Tryz.ntmps101;go_wp2_with fail;go_returns;refine ⟨by unfold QI;rw [if_neg f,if_neg g,if_neg h,if_neg i,if_neg j];rfl,?_⟩;have d:=((Below.refl w.heap.size w).alloc (Nat.le_refl _) (.cells #[Xi a,Xi id,Xi pa,Xi bf,Xi b,.string tg,.string nm,.string c] 60));exact ((d.alloc (by simp) _).alloc (by simp;omega) _)
theorem QcQ (x:Qn) (w:World):Xl 101 #[x.val] w λe w'=>e=.returned (QI x).val/\Xb w w':=by
 obtain ⟨a,id,pa,bf,b,tg,nm,c⟩:=x;by_cases d:a=1
 ·subst d;exact Qm7 id pa bf b tg nm c w
 by_cases f:a=2
 ·subst f;exact QqT id pa bf b tg nm c w
 by_cases g:a=4
 ·subst g;exact Qqx id pa bf b tg nm c w
 by_cases h:a=5
 ·subst h;exact Qse id pa bf b tg nm c w
 by_cases i:a=6
 ·subst i;exact QrK id pa bf b tg nm c w
 exact QnB a id pa bf b tg nm c w d f g h i
def Z3 (x a:Qn):Bool:=(x.kind==a.kind)&&((x.id==a.id)&&((x.par==a.par)&&((x.bef==a.bef)&&((x.key==a.key)&&((x.tag.toList==a.tag.toList)&&((x.name.toList==a.name.toList)&&(x.text.toList==a.text.toList)))))))
theorem QbM {d c:Nat} {f:Field} {i:List Field} {xs g:Array Value} {a b:Int} (w:World) (h:(f.type,f.offset,f.name== "_")=(3,c,false)) (l:xs[c]?=some (Xi a)) (m:g[c]?=some (Xi b)) : (Op.eqFields (d+1) xs g (f::i)).run Tryz.prog w=if (a==b)=true then (Op.eqFields (d+1) xs g i).run Tryz.prog w else .ok false w:=by
 obtain ⟨n,h⟩:=Prod.mk.inj h;obtain ⟨o,p⟩:=Prod.mk.inj h;have k:f.name≠ "_":=by simpa using p
 have j:∀ (zs:Array Value) (z:Int),zs[c]?=some (Xi z)->(part 3 zs c).run Tryz.prog w=.ok (Xi z) w:=λzs z q=>run_part_plain _ (by kernel_rfl) q;rw [Op.eqFields,if_pos k,n,o];simp only [Sem.run_bind,j xs a l,j g b m,Result.andThen_ok,run_equalIn_int w d 3 .i64 .i64 a b Tryz.underlying3];by_cases e:(a==b)=true
 ·rw [if_pos e,e];simp
 rw [if_neg e,Bool.eq_false_iff.2 e];simp
theorem Qfn {d c:Nat} {f:Field} {i:List Field} {xs g:Array Value} {a b:ByteArray} (w:World) (h:(f.type,f.offset,f.name== "_")=(9,c,false)) (l:xs[c]?=some (.string a)) (m:g[c]?=some (.string b)) : (Op.eqFields (d+1) xs g (f::i)).run Tryz.prog w=if (a.toList==b.toList)=true then (Op.eqFields (d+1) xs g i).run Tryz.prog w else .ok false w:=by
 obtain ⟨n,h⟩:=Prod.mk.inj h;obtain ⟨o,p⟩:=Prod.mk.inj h;have k:f.name≠ "_":=by simpa using p
 have j:∀ (zs:Array Value) (z:ByteArray),zs[c]?=some (.string z)->(part 9 zs c).run Tryz.prog w=.ok (.string z) w:=λzs z q=>run_part_plain _ (by kernel_rfl) q;rw [Op.eqFields,if_pos k,n,o];simp only [Sem.run_bind,j xs a l,j g b m,Result.andThen_ok,run_equalIn_string w d 9 a b Tryz.underlying9];by_cases e:(a.toList==b.toList)=true
 ·rw [if_pos e,e];simp
 rw [if_neg e,Bool.eq_false_iff.2 e];simp
theorem Qqd (x a:Qn) (w:World):(Op.equalIn 10000 60 x.val a.val).run Tryz.prog w=.ok (Z3 x a) w:=by
 unfold Qn.val;rw [run_equalIn_agg w _ _ _ _ (by kernel_rfl) (by kernel_rfl)];have b:(Tryz.prog.fieldsOf 60).toList.map (λf=>(f.type,f.offset,f.name== "_"))=[(3,0,false),(3,1,false),(3,2,false),(3,3,false),(3,4,false),(9,5,false),(9,6,false),(9,7,false)]:=by kernel_rfl
 generalize (Tryz.prog.fieldsOf 60).toList=c at *;have d:=congrArg List.length b;rw [length_map] at d;rcases c with _|⟨o,_|⟨p,_|⟨q,_|⟨r,_|⟨s,_|⟨t,_|⟨u,_|⟨v,_|⟨y,c⟩⟩⟩⟩⟩⟩⟩⟩⟩;case cons.cons.cons.cons.cons.cons.cons.cons.nil =>simp only [map_cons,map_nil,List.cons.injEq,and_true] at b;obtain ⟨g,h,i,j,k,l,m,n⟩:=b;rw [QbM w g rfl rfl,QbM w h rfl rfl,QbM w i rfl rfl,QbM w j rfl rfl,QbM w k rfl rfl,Qfn w l rfl rfl,Qfn w m rfl rfl,Qfn w n rfl rfl,Op.eqFields];unfold Z3;cases (x.kind==a.kind)<;>cases (x.id==a.id)<;>cases (x.par==a.par)<;>cases (x.bef==a.bef)<;>cases (x.key==a.key)<;>cases (x.tag.toList==a.tag.toList)<;>cases (x.name.toList==a.name.toList)<;>cases (x.text.toList==a.text.toList)<;>rfl
 all_goals (simp at d)
theorem QcZ (x a:Qn) (w:World):(binOp .neq 60 x.val a.val).run Tryz.prog w=.ok (.bool (!Z3 x a)) w:=by have h:=Qqd x a w;unfold Qn.val at h ⊢;rw [run_neq_struct,h];rfl
theorem Qnw (q:Nat) (a id pa bf c:Int) (tg nm d:ByteArray) (w:World) (i:Z3 ⟨a,id,pa,bf,c,tg,nm,d⟩ (QI ⟨a,id,pa,bf,c,tg,nm,d⟩)=false) : Xl 63 #[Xp q,.agg #[Xi a,Xi id,Xi pa,Xi bf,Xi c,.string tg,.string nm,.string d]] w λe w'=>e=.returned (.bool false)/\Xb w w':=by
 have j:Hid (∀ w1,Xl 101 #[.agg #[Xi a,Xi id,Xi pa,Xi bf,Xi c,.string tg,.string nm,.string d]] w1 λe w'=>e=.returned (QI ⟨a,id,pa,bf,c,tg,nm,d⟩).val/\Xb w1 w'):=Qa λw1=>QcQ ⟨a,id,pa,bf,c,tg,nm,d⟩ w1;have m:∀ w1,(binOp .neq 60 (.agg #[Xi a,Xi id,Xi pa,Xi bf,Xi c,.string tg,.string nm,.string d]) (QI ⟨a,id,pa,bf,c,tg,nm,d⟩).val).run Tryz.prog w1=.ok (.bool true) w1:=λw1=>by have:=QcZ ⟨a,id,pa,bf,c,tg,nm,d⟩ (QI ⟨a,id,pa,bf,c,tg,nm,d⟩) w1;rw [i] at this;exact this
 clear i;generalize QI ⟨a,id,pa,bf,c,tg,nm,d⟩=p at *;obtain ⟨s,t,u,v,x,y,z,A⟩:=p;simp only [Qn.val] at j m;go_enter Tryz.func63,Tryz.ntmps63;go_wp2_with fail;generalize g:w.alloc (.cells #[Xi a,Xi id,Xi pa,Xi bf,Xi c,.string tg,.string nm,.string d] 60)=n;obtain ⟨h,r,B,C,D,E,F,G,H,I⟩:=Qa6 g;have k:=Qa h;clear g h
 go_region_held3 (λw'=>w'.cell? (Xa w.heap.size 0)=some (Xi a)/\w'.cell? (Xa w.heap.size 1)=some (Xi id)/\w'.cell? (Xa w.heap.size 2)=some (Xi pa)/\w'.cell? (Xa w.heap.size 3)=some (Xi bf)/\w'.cell? (Xa w.heap.size 4)=some (Xi c)/\w'.cell? (Xa w.heap.size 5)=some (.string tg)/\w'.cell? (Xa w.heap.size 6)=some (.string nm)/\w'.cell? (Xa w.heap.size 7)=some (.string d))
   (first
     | go_keep
     | (go_split_ands
        refine ⟨?_,?_,?_,?_,?_,?_,?_,?_⟩
        all_goals (rw [f.cell (by simp;omega)];assumption)))
   (first|(go_at_call 101;refine (Qb j _).mono ?_;rintro e o ⟨rfl,f⟩))
 have l:Hid (Xb w o):=Qa ((Qb k).drew.trans ⟨f.os,f.tape,f.output,f.size,λb hb=>f.block b (by show b<n.heap.size;omega)⟩);go_wp2;go_ret;exact ⟨rfl,Qb l⟩
theorem QpE (q:Nat) (a id pa bf c:Int) (tg nm d:ByteArray) (w:World) (i:Z3 ⟨a,id,pa,bf,c,tg,nm,d⟩ (QI ⟨a,id,pa,bf,c,tg,nm,d⟩)=true) (t:a≠1) (u:a≠2) (v:a≠3) (x:a≠4) (y:a≠5) (z:a≠6) : Xl 63 #[Xp q,.agg #[Xi a,Xi id,Xi pa,Xi bf,Xi c,.string tg,.string nm,.string d]] w λe w'=>e=.returned (.bool false)/\Xb w w':=by
 have j:Hid (∀ w1,Xl 101 #[.agg #[Xi a,Xi id,Xi pa,Xi bf,Xi c,.string tg,.string nm,.string d]] w1 λe w'=>e=.returned (QI ⟨a,id,pa,bf,c,tg,nm,d⟩).val/\Xb w1 w'):=Qa λw1=>QcQ ⟨a,id,pa,bf,c,tg,nm,d⟩ w1;have m:∀ w1,(binOp .neq 60 (.agg #[Xi a,Xi id,Xi pa,Xi bf,Xi c,.string tg,.string nm,.string d]) (QI ⟨a,id,pa,bf,c,tg,nm,d⟩).val).run Tryz.prog w1=.ok (.bool false) w1:=λw1=>by have:=QcZ ⟨a,id,pa,bf,c,tg,nm,d⟩ (QI ⟨a,id,pa,bf,c,tg,nm,d⟩) w1;rw [i] at this;exact this
 clear i;generalize QI ⟨a,id,pa,bf,c,tg,nm,d⟩=r at *;obtain ⟨A,B,C,D,E,F,G,H⟩:=r;simp only [Qn.val] at j m;go_enter Tryz.func63,Tryz.ntmps63;go_wp2_with fail;generalize g:w.alloc (.cells #[Xi a,Xi id,Xi pa,Xi bf,Xi c,.string tg,.string nm,.string d] 60)=n;obtain ⟨h,s,o,I,J,K,L,M,N,O⟩:=Qa6 g;have k:=Qa h;clear g h
 go_region_held3 (λw'=>w'.cell? (Xa w.heap.size 0)=some (Xi a)/\w'.cell? (Xa w.heap.size 1)=some (Xi id)/\w'.cell? (Xa w.heap.size 2)=some (Xi pa)/\w'.cell? (Xa w.heap.size 3)=some (Xi bf)/\w'.cell? (Xa w.heap.size 4)=some (Xi c)/\w'.cell? (Xa w.heap.size 5)=some (.string tg)/\w'.cell? (Xa w.heap.size 6)=some (.string nm)/\w'.cell? (Xa w.heap.size 7)=some (.string d))
   (first
     | go_keep
     | (go_split_ands
        refine ⟨?_,?_,?_,?_,?_,?_,?_,?_⟩
        all_goals (rw [f.cell (by simp;omega)];assumption)))
   (first|(go_at_call 101;refine (Qb j _).mono ?_;rintro e p ⟨rfl,f⟩))
 have l:Hid (Xb w p):=Qa ((Qb k).drew.trans ⟨f.os,f.tape,f.output,f.size,λb hb=>f.block b (by show b<n.heap.size;omega)⟩);have P:=(Xh f w.heap.size 0 (by (try simp);omega)).trans o;go_wp2;go_ret;exact ⟨rfl,Qb l⟩
theorem Qn9 (q:Nat) (id pa bf c:Int) (tg nm d:ByteArray) (w:World) (h:Z3 ⟨1,id,pa,bf,c,tg,nm,d⟩ (QI ⟨1,id,pa,bf,c,tg,nm,d⟩)=true) (l:Bool->World->Prop) (i:∀ w1,Xb w w1->Xl 102 #[Xp q,.agg #[Xi 1,Xi id,Xi pa,Xi bf,Xi c,.string tg,.string nm,.string d]] w1 λe w'=>∃ b,e=.returned (.bool b)/\l b w') : Xl 63 #[Xp q,.agg #[Xi 1,Xi id,Xi pa,Xi bf,Xi c,.string tg,.string nm,.string d]] w λe w'=>∃ b,e=.returned (.bool b)/\l b w':=by
 have j:Hid (∀ w1,Xl 101 #[.agg #[Xi 1,Xi id,Xi pa,Xi bf,Xi c,.string tg,.string nm,.string d]] w1 λe w'=>e=.returned (QI ⟨1,id,pa,bf,c,tg,nm,d⟩).val/\Xb w1 w'):=Qa λw1=>QcQ ⟨1,id,pa,bf,c,tg,nm,d⟩ w1;have r:∀ w1,(binOp .neq 60 (.agg #[Xi 1,Xi id,Xi pa,Xi bf,Xi c,.string tg,.string nm,.string d]) (QI ⟨1,id,pa,bf,c,tg,nm,d⟩).val).run Tryz.prog w1=.ok (.bool false) w1:=λw1=>by have:=QcZ ⟨1,id,pa,bf,c,tg,nm,d⟩ (QI ⟨1,id,pa,bf,c,tg,nm,d⟩) w1;rw [h] at this;exact this
 clear h;generalize QI ⟨1,id,pa,bf,c,tg,nm,d⟩=C at *;obtain ⟨E,F,G,H,I,J,K,L⟩:=C;simp only [Qn.val] at j r;have m:=Qa i;clear i;go_enter Tryz.func63,Tryz.ntmps63;go_wp2_with fail;generalize f:w.alloc (.cells #[Xi 1,Xi id,Xi pa,Xi bf,Xi c,.string tg,.string nm,.string d] 60)=s;obtain ⟨g,D,t,u,v,x,y,z,A,B⟩:=Qa6 f;have n:=Qa g;clear f g
 go_region_held3 (λw'=>w'.cell? (Xa w.heap.size 0)=some (Xi 1)/\w'.cell? (Xa w.heap.size 1)=some (Xi id)/\w'.cell? (Xa w.heap.size 2)=some (Xi pa)/\w'.cell? (Xa w.heap.size 3)=some (Xi bf)/\w'.cell? (Xa w.heap.size 4)=some (Xi c)/\w'.cell? (Xa w.heap.size 5)=some (.string tg)/\w'.cell? (Xa w.heap.size 6)=some (.string nm)/\w'.cell? (Xa w.heap.size 7)=some (.string d))
   (first
     | go_keep
     | (go_split_ands
        refine ⟨?_,?_,?_,?_,?_,?_,?_,?_⟩
        all_goals (rw [a.cell (by simp;omega)];assumption)))
   (first|(go_at_call 101;refine (Qb j _).mono ?_;rintro e k ⟨rfl,a⟩))
 have o:Hid (Xb w k):=Qa ((Qb n).drew.trans ⟨a.os,a.tape,a.output,a.size,λb hb=>a.block b (by show b<s.heap.size;omega)⟩);have M:=(Xh a w.heap.size 0 (by (try simp);omega)).trans t;have N:=(Xh a w.heap.size 1 (by (try simp);omega)).trans u;have O:=(Xh a w.heap.size 2 (by (try simp);omega)).trans v;have P:=(Xh a w.heap.size 3 (by (try simp);omega)).trans x;have R:=(Xh a w.heap.size 4 (by (try simp);omega)).trans y;have S:=(Xh a w.heap.size 5 (by (try simp);omega)).trans z;have T:=(Xh a w.heap.size 6 (by (try simp);omega)).trans A;have U:=(Xh a w.heap.size 7 (by (try simp);omega)).trans B;clear a;have p:=Qa (Qb m k (Qb o));go_wp2_with (first|(go_at_call 102;refine (Qb p).mono ?_;rintro e V ⟨b,rfl,hb⟩));go_ret;exact ⟨b,rfl,hb⟩
theorem Qrw (q:Nat) (id pa bf c:Int) (tg nm d:ByteArray) (w:World) (h:Z3 ⟨2,id,pa,bf,c,tg,nm,d⟩ (QI ⟨2,id,pa,bf,c,tg,nm,d⟩)=true) (l:Bool->World->Prop) (i:∀ w1,Xb w w1->Xl 103 #[Xp q,.agg #[Xi 2,Xi id,Xi pa,Xi bf,Xi c,.string tg,.string nm,.string d]] w1 λe w'=>∃ b,e=.returned (.bool b)/\l b w') : Xl 63 #[Xp q,.agg #[Xi 2,Xi id,Xi pa,Xi bf,Xi c,.string tg,.string nm,.string d]] w λe w'=>∃ b,e=.returned (.bool b)/\l b w':=by
 have j:Hid (∀ w1,Xl 101 #[.agg #[Xi 2,Xi id,Xi pa,Xi bf,Xi c,.string tg,.string nm,.string d]] w1 λe w'=>e=.returned (QI ⟨2,id,pa,bf,c,tg,nm,d⟩).val/\Xb w1 w'):=Qa λw1=>QcQ ⟨2,id,pa,bf,c,tg,nm,d⟩ w1;have r:∀ w1,(binOp .neq 60 (.agg #[Xi 2,Xi id,Xi pa,Xi bf,Xi c,.string tg,.string nm,.string d]) (QI ⟨2,id,pa,bf,c,tg,nm,d⟩).val).run Tryz.prog w1=.ok (.bool false) w1:=λw1=>by have:=QcZ ⟨2,id,pa,bf,c,tg,nm,d⟩ (QI ⟨2,id,pa,bf,c,tg,nm,d⟩) w1;rw [h] at this;exact this
 clear h;generalize QI ⟨2,id,pa,bf,c,tg,nm,d⟩=C at *;obtain ⟨E,F,G,H,I,J,K,L⟩:=C;simp only [Qn.val] at j r;have m:=Qa i;clear i;go_enter Tryz.func63,Tryz.ntmps63;go_wp2_with fail;generalize f:w.alloc (.cells #[Xi 2,Xi id,Xi pa,Xi bf,Xi c,.string tg,.string nm,.string d] 60)=s;obtain ⟨g,D,t,u,v,x,y,z,A,B⟩:=Qa6 f;have n:=Qa g;clear f g
 go_region_held3 (λw'=>w'.cell? (Xa w.heap.size 0)=some (Xi 2)/\w'.cell? (Xa w.heap.size 1)=some (Xi id)/\w'.cell? (Xa w.heap.size 2)=some (Xi pa)/\w'.cell? (Xa w.heap.size 3)=some (Xi bf)/\w'.cell? (Xa w.heap.size 4)=some (Xi c)/\w'.cell? (Xa w.heap.size 5)=some (.string tg)/\w'.cell? (Xa w.heap.size 6)=some (.string nm)/\w'.cell? (Xa w.heap.size 7)=some (.string d))
   (first
     | go_keep
     | (go_split_ands
        refine ⟨?_,?_,?_,?_,?_,?_,?_,?_⟩
        all_goals (rw [a.cell (by simp;omega)];assumption)))
   (first|(go_at_call 101;refine (Qb j _).mono ?_;rintro e k ⟨rfl,a⟩))
 have o:Hid (Xb w k):=Qa ((Qb n).drew.trans ⟨a.os,a.tape,a.output,a.size,λb hb=>a.block b (by show b<s.heap.size;omega)⟩);have M:=(Xh a w.heap.size 0 (by (try simp);omega)).trans t;have N:=(Xh a w.heap.size 1 (by (try simp);omega)).trans u;have O:=(Xh a w.heap.size 2 (by (try simp);omega)).trans v;have P:=(Xh a w.heap.size 3 (by (try simp);omega)).trans x;have R:=(Xh a w.heap.size 4 (by (try simp);omega)).trans y;have S:=(Xh a w.heap.size 5 (by (try simp);omega)).trans z;have T:=(Xh a w.heap.size 6 (by (try simp);omega)).trans A;have U:=(Xh a w.heap.size 7 (by (try simp);omega)).trans B;clear a;have p:=Qa (Qb m k (Qb o));go_wp2_with (first|(go_at_call 103;refine (Qb p).mono ?_;rintro e V ⟨b,rfl,hb⟩));go_ret;exact ⟨b,rfl,hb⟩
theorem QpT (q:Nat) (id pa bf c:Int) (tg nm d:ByteArray) (w:World) (h:Z3 ⟨3,id,pa,bf,c,tg,nm,d⟩ (QI ⟨3,id,pa,bf,c,tg,nm,d⟩)=true) (l:Bool->World->Prop) (i:∀ w1,Xb w w1->Xl 104 #[Xp q,.agg #[Xi 3,Xi id,Xi pa,Xi bf,Xi c,.string tg,.string nm,.string d]] w1 λe w'=>∃ b,e=.returned (.bool b)/\l b w') : Xl 63 #[Xp q,.agg #[Xi 3,Xi id,Xi pa,Xi bf,Xi c,.string tg,.string nm,.string d]] w λe w'=>∃ b,e=.returned (.bool b)/\l b w':=by
 have j:Hid (∀ w1,Xl 101 #[.agg #[Xi 3,Xi id,Xi pa,Xi bf,Xi c,.string tg,.string nm,.string d]] w1 λe w'=>e=.returned (QI ⟨3,id,pa,bf,c,tg,nm,d⟩).val/\Xb w1 w'):=Qa λw1=>QcQ ⟨3,id,pa,bf,c,tg,nm,d⟩ w1;have r:∀ w1,(binOp .neq 60 (.agg #[Xi 3,Xi id,Xi pa,Xi bf,Xi c,.string tg,.string nm,.string d]) (QI ⟨3,id,pa,bf,c,tg,nm,d⟩).val).run Tryz.prog w1=.ok (.bool false) w1:=λw1=>by have:=QcZ ⟨3,id,pa,bf,c,tg,nm,d⟩ (QI ⟨3,id,pa,bf,c,tg,nm,d⟩) w1;rw [h] at this;exact this
 clear h;generalize QI ⟨3,id,pa,bf,c,tg,nm,d⟩=C at *;obtain ⟨E,F,G,H,I,J,K,L⟩:=C;simp only [Qn.val] at j r;have m:=Qa i;clear i;go_enter Tryz.func63,Tryz.ntmps63;go_wp2_with fail;generalize f:w.alloc (.cells #[Xi 3,Xi id,Xi pa,Xi bf,Xi c,.string tg,.string nm,.string d] 60)=s;obtain ⟨g,D,t,u,v,x,y,z,A,B⟩:=Qa6 f;have n:=Qa g;clear f g
 go_region_held3 (λw'=>w'.cell? (Xa w.heap.size 0)=some (Xi 3)/\w'.cell? (Xa w.heap.size 1)=some (Xi id)/\w'.cell? (Xa w.heap.size 2)=some (Xi pa)/\w'.cell? (Xa w.heap.size 3)=some (Xi bf)/\w'.cell? (Xa w.heap.size 4)=some (Xi c)/\w'.cell? (Xa w.heap.size 5)=some (.string tg)/\w'.cell? (Xa w.heap.size 6)=some (.string nm)/\w'.cell? (Xa w.heap.size 7)=some (.string d))
   (first
     | go_keep
     | (go_split_ands
        refine ⟨?_,?_,?_,?_,?_,?_,?_,?_⟩
        all_goals (rw [a.cell (by simp;omega)];assumption)))
   (first|(go_at_call 101;refine (Qb j _).mono ?_;rintro e k ⟨rfl,a⟩))
 have o:Hid (Xb w k):=Qa ((Qb n).drew.trans ⟨a.os,a.tape,a.output,a.size,λb hb=>a.block b (by show b<s.heap.size;omega)⟩);have M:=(Xh a w.heap.size 0 (by (try simp);omega)).trans t;have N:=(Xh a w.heap.size 1 (by (try simp);omega)).trans u;have O:=(Xh a w.heap.size 2 (by (try simp);omega)).trans v;have P:=(Xh a w.heap.size 3 (by (try simp);omega)).trans x;have R:=(Xh a w.heap.size 4 (by (try simp);omega)).trans y;have S:=(Xh a w.heap.size 5 (by (try simp);omega)).trans z;have T:=(Xh a w.heap.size 6 (by (try simp);omega)).trans A;have U:=(Xh a w.heap.size 7 (by (try simp);omega)).trans B;clear a;have p:=Qa (Qb m k (Qb o));go_wp2_with (first|(go_at_call 104;refine (Qb p).mono ?_;rintro e V ⟨b,rfl,hb⟩));go_ret;exact ⟨b,rfl,hb⟩
theorem Qq6 (q:Nat) (id pa bf c:Int) (tg nm d:ByteArray) (w:World) (h:Z3 ⟨4,id,pa,bf,c,tg,nm,d⟩ (QI ⟨4,id,pa,bf,c,tg,nm,d⟩)=true) (l:Bool->World->Prop) (i:∀ w1,Xb w w1->Xl 105 #[Xp q,.agg #[Xi 4,Xi id,Xi pa,Xi bf,Xi c,.string tg,.string nm,.string d]] w1 λe w'=>∃ b,e=.returned (.bool b)/\l b w') : Xl 63 #[Xp q,.agg #[Xi 4,Xi id,Xi pa,Xi bf,Xi c,.string tg,.string nm,.string d]] w λe w'=>∃ b,e=.returned (.bool b)/\l b w':=by
 have j:Hid (∀ w1,Xl 101 #[.agg #[Xi 4,Xi id,Xi pa,Xi bf,Xi c,.string tg,.string nm,.string d]] w1 λe w'=>e=.returned (QI ⟨4,id,pa,bf,c,tg,nm,d⟩).val/\Xb w1 w'):=Qa λw1=>QcQ ⟨4,id,pa,bf,c,tg,nm,d⟩ w1;have r:∀ w1,(binOp .neq 60 (.agg #[Xi 4,Xi id,Xi pa,Xi bf,Xi c,.string tg,.string nm,.string d]) (QI ⟨4,id,pa,bf,c,tg,nm,d⟩).val).run Tryz.prog w1=.ok (.bool false) w1:=λw1=>by have:=QcZ ⟨4,id,pa,bf,c,tg,nm,d⟩ (QI ⟨4,id,pa,bf,c,tg,nm,d⟩) w1;rw [h] at this;exact this
 clear h;generalize QI ⟨4,id,pa,bf,c,tg,nm,d⟩=C at *;obtain ⟨E,F,G,H,I,J,K,L⟩:=C;simp only [Qn.val] at j r;have m:=Qa i;clear i;go_enter Tryz.func63,Tryz.ntmps63;go_wp2_with fail;generalize f:w.alloc (.cells #[Xi 4,Xi id,Xi pa,Xi bf,Xi c,.string tg,.string nm,.string d] 60)=s;obtain ⟨g,D,t,u,v,x,y,z,A,B⟩:=Qa6 f;have n:=Qa g;clear f g
 go_region_held3 (λw'=>w'.cell? (Xa w.heap.size 0)=some (Xi 4)/\w'.cell? (Xa w.heap.size 1)=some (Xi id)/\w'.cell? (Xa w.heap.size 2)=some (Xi pa)/\w'.cell? (Xa w.heap.size 3)=some (Xi bf)/\w'.cell? (Xa w.heap.size 4)=some (Xi c)/\w'.cell? (Xa w.heap.size 5)=some (.string tg)/\w'.cell? (Xa w.heap.size 6)=some (.string nm)/\w'.cell? (Xa w.heap.size 7)=some (.string d))
   (first
     | go_keep
     | (go_split_ands
        refine ⟨?_,?_,?_,?_,?_,?_,?_,?_⟩
        all_goals (rw [a.cell (by simp;omega)];assumption)))
   (first|(go_at_call 101;refine (Qb j _).mono ?_;rintro e k ⟨rfl,a⟩))
 have o:Hid (Xb w k):=Qa ((Qb n).drew.trans ⟨a.os,a.tape,a.output,a.size,λb hb=>a.block b (by show b<s.heap.size;omega)⟩);have M:=(Xh a w.heap.size 0 (by (try simp);omega)).trans t;have N:=(Xh a w.heap.size 1 (by (try simp);omega)).trans u;have O:=(Xh a w.heap.size 2 (by (try simp);omega)).trans v;have P:=(Xh a w.heap.size 3 (by (try simp);omega)).trans x;have R:=(Xh a w.heap.size 4 (by (try simp);omega)).trans y;have S:=(Xh a w.heap.size 5 (by (try simp);omega)).trans z;have T:=(Xh a w.heap.size 6 (by (try simp);omega)).trans A;have U:=(Xh a w.heap.size 7 (by (try simp);omega)).trans B;clear a;have p:=Qa (Qb m k (Qb o));go_wp2_with (first|(go_at_call 105;refine (Qb p).mono ?_;rintro e V ⟨b,rfl,hb⟩));go_ret;exact ⟨b,rfl,hb⟩
theorem QrL (q:Nat) (id pa bf c:Int) (tg nm d:ByteArray) (w:World) (h:Z3 ⟨5,id,pa,bf,c,tg,nm,d⟩ (QI ⟨5,id,pa,bf,c,tg,nm,d⟩)=true) (l:Bool->World->Prop) (i:∀ w1,Xb w w1->Xl 106 #[Xp q,.agg #[Xi 5,Xi id,Xi pa,Xi bf,Xi c,.string tg,.string nm,.string d]] w1 λe w'=>∃ b,e=.returned (.bool b)/\l b w') : Xl 63 #[Xp q,.agg #[Xi 5,Xi id,Xi pa,Xi bf,Xi c,.string tg,.string nm,.string d]] w λe w'=>∃ b,e=.returned (.bool b)/\l b w':=by
 have j:Hid (∀ w1,Xl 101 #[.agg #[Xi 5,Xi id,Xi pa,Xi bf,Xi c,.string tg,.string nm,.string d]] w1 λe w'=>e=.returned (QI ⟨5,id,pa,bf,c,tg,nm,d⟩).val/\Xb w1 w'):=Qa λw1=>QcQ ⟨5,id,pa,bf,c,tg,nm,d⟩ w1;have r:∀ w1,(binOp .neq 60 (.agg #[Xi 5,Xi id,Xi pa,Xi bf,Xi c,.string tg,.string nm,.string d]) (QI ⟨5,id,pa,bf,c,tg,nm,d⟩).val).run Tryz.prog w1=.ok (.bool false) w1:=λw1=>by have:=QcZ ⟨5,id,pa,bf,c,tg,nm,d⟩ (QI ⟨5,id,pa,bf,c,tg,nm,d⟩) w1;rw [h] at this;exact this
 clear h;generalize QI ⟨5,id,pa,bf,c,tg,nm,d⟩=C at *;obtain ⟨E,F,G,H,I,J,K,L⟩:=C;simp only [Qn.val] at j r;have m:=Qa i;clear i;go_enter Tryz.func63,Tryz.ntmps63;go_wp2_with fail;generalize f:w.alloc (.cells #[Xi 5,Xi id,Xi pa,Xi bf,Xi c,.string tg,.string nm,.string d] 60)=s;obtain ⟨g,D,t,u,v,x,y,z,A,B⟩:=Qa6 f;have n:=Qa g;clear f g
 go_region_held3 (λw'=>w'.cell? (Xa w.heap.size 0)=some (Xi 5)/\w'.cell? (Xa w.heap.size 1)=some (Xi id)/\w'.cell? (Xa w.heap.size 2)=some (Xi pa)/\w'.cell? (Xa w.heap.size 3)=some (Xi bf)/\w'.cell? (Xa w.heap.size 4)=some (Xi c)/\w'.cell? (Xa w.heap.size 5)=some (.string tg)/\w'.cell? (Xa w.heap.size 6)=some (.string nm)/\w'.cell? (Xa w.heap.size 7)=some (.string d))
   (first
     | go_keep
     | (go_split_ands
        refine ⟨?_,?_,?_,?_,?_,?_,?_,?_⟩
        all_goals (rw [a.cell (by simp;omega)];assumption)))
   (first|(go_at_call 101;refine (Qb j _).mono ?_;rintro e k ⟨rfl,a⟩))
 have o:Hid (Xb w k):=Qa ((Qb n).drew.trans ⟨a.os,a.tape,a.output,a.size,λb hb=>a.block b (by show b<s.heap.size;omega)⟩);have M:=(Xh a w.heap.size 0 (by (try simp);omega)).trans t;have N:=(Xh a w.heap.size 1 (by (try simp);omega)).trans u;have O:=(Xh a w.heap.size 2 (by (try simp);omega)).trans v;have P:=(Xh a w.heap.size 3 (by (try simp);omega)).trans x;have R:=(Xh a w.heap.size 4 (by (try simp);omega)).trans y;have S:=(Xh a w.heap.size 5 (by (try simp);omega)).trans z;have T:=(Xh a w.heap.size 6 (by (try simp);omega)).trans A;have U:=(Xh a w.heap.size 7 (by (try simp);omega)).trans B;clear a;have p:=Qa (Qb m k (Qb o));go_wp2_with (first|(go_at_call 106;refine (Qb p).mono ?_;rintro e V ⟨b,rfl,hb⟩));go_ret;exact ⟨b,rfl,hb⟩
theorem Qn5 (q:Nat) (id pa bf c:Int) (tg nm d:ByteArray) (w:World) (h:Z3 ⟨6,id,pa,bf,c,tg,nm,d⟩ (QI ⟨6,id,pa,bf,c,tg,nm,d⟩)=true) (l:Bool->World->Prop) (i:∀ w1,Xb w w1->Xl 107 #[Xp q,.agg #[Xi 6,Xi id,Xi pa,Xi bf,Xi c,.string tg,.string nm,.string d]] w1 λe w'=>∃ b,e=.returned (.bool b)/\l b w') : Xl 63 #[Xp q,.agg #[Xi 6,Xi id,Xi pa,Xi bf,Xi c,.string tg,.string nm,.string d]] w λe w'=>∃ b,e=.returned (.bool b)/\l b w':=by
 have j:Hid (∀ w1,Xl 101 #[.agg #[Xi 6,Xi id,Xi pa,Xi bf,Xi c,.string tg,.string nm,.string d]] w1 λe w'=>e=.returned (QI ⟨6,id,pa,bf,c,tg,nm,d⟩).val/\Xb w1 w'):=Qa λw1=>QcQ ⟨6,id,pa,bf,c,tg,nm,d⟩ w1;have r:∀ w1,(binOp .neq 60 (.agg #[Xi 6,Xi id,Xi pa,Xi bf,Xi c,.string tg,.string nm,.string d]) (QI ⟨6,id,pa,bf,c,tg,nm,d⟩).val).run Tryz.prog w1=.ok (.bool false) w1:=λw1=>by have:=QcZ ⟨6,id,pa,bf,c,tg,nm,d⟩ (QI ⟨6,id,pa,bf,c,tg,nm,d⟩) w1;rw [h] at this;exact this
 clear h;generalize QI ⟨6,id,pa,bf,c,tg,nm,d⟩=C at *;obtain ⟨E,F,G,H,I,J,K,L⟩:=C;simp only [Qn.val] at j r;have m:=Qa i;clear i;go_enter Tryz.func63,Tryz.ntmps63;go_wp2_with fail;generalize f:w.alloc (.cells #[Xi 6,Xi id,Xi pa,Xi bf,Xi c,.string tg,.string nm,.string d] 60)=s;obtain ⟨g,D,t,u,v,x,y,z,A,B⟩:=Qa6 f;have n:=Qa g;clear f g
 go_region_held3 (λw'=>w'.cell? (Xa w.heap.size 0)=some (Xi 6)/\w'.cell? (Xa w.heap.size 1)=some (Xi id)/\w'.cell? (Xa w.heap.size 2)=some (Xi pa)/\w'.cell? (Xa w.heap.size 3)=some (Xi bf)/\w'.cell? (Xa w.heap.size 4)=some (Xi c)/\w'.cell? (Xa w.heap.size 5)=some (.string tg)/\w'.cell? (Xa w.heap.size 6)=some (.string nm)/\w'.cell? (Xa w.heap.size 7)=some (.string d))
   (first
     | go_keep
     | (go_split_ands
        refine ⟨?_,?_,?_,?_,?_,?_,?_,?_⟩
        all_goals (rw [a.cell (by simp;omega)];assumption)))
   (first|(go_at_call 101;refine (Qb j _).mono ?_;rintro e k ⟨rfl,a⟩))
 have o:Hid (Xb w k):=Qa ((Qb n).drew.trans ⟨a.os,a.tape,a.output,a.size,λb hb=>a.block b (by show b<s.heap.size;omega)⟩);have M:=(Xh a w.heap.size 0 (by (try simp);omega)).trans t;have N:=(Xh a w.heap.size 1 (by (try simp);omega)).trans u;have O:=(Xh a w.heap.size 2 (by (try simp);omega)).trans v;have P:=(Xh a w.heap.size 3 (by (try simp);omega)).trans x;have R:=(Xh a w.heap.size 4 (by (try simp);omega)).trans y;have S:=(Xh a w.heap.size 5 (by (try simp);omega)).trans z;have T:=(Xh a w.heap.size 6 (by (try simp);omega)).trans A;have U:=(Xh a w.heap.size 7 (by (try simp);omega)).trans B;clear a;have p:=Qa (Qb m k (Qb o));go_wp2_with (first|(go_at_call 107;refine (Qb p).mono ?_;rintro e V ⟨b,rfl,hb⟩));go_ret;exact ⟨b,rfl,hb⟩
theorem Qjn (id pa bf a:Int) (tg nm b:ByteArray):Z3 ⟨1,id,pa,bf,a,tg,nm,b⟩ (QI ⟨1,id,pa,bf,a,tg,nm,b⟩)=((pa==0)&&(bf==0)&&nm.toList.isEmpty):=by simp [Z3,QI,Bool.and_assoc]
theorem QiQ (id pa bf a:Int) (tg nm b:ByteArray):Z3 ⟨2,id,pa,bf,a,tg,nm,b⟩ (QI ⟨2,id,pa,bf,a,tg,nm,b⟩)=((a==0)&&tg.toList.isEmpty&&nm.toList.isEmpty&&b.toList.isEmpty):=by simp [Z3,QI,Bool.and_assoc]
theorem Qjc (id pa bf a:Int) (tg nm b:ByteArray):Z3 ⟨3,id,pa,bf,a,tg,nm,b⟩ (QI ⟨3,id,pa,bf,a,tg,nm,b⟩)=((pa==0)&&(bf==0)&&(a==0)&&tg.toList.isEmpty&&nm.toList.isEmpty&&b.toList.isEmpty):=by simp [Z3,QI,Bool.and_assoc]
theorem Qi8 (id pa bf a:Int) (tg nm b:ByteArray):Z3 ⟨4,id,pa,bf,a,tg,nm,b⟩ (QI ⟨4,id,pa,bf,a,tg,nm,b⟩)=((pa==0)&&(bf==0)&&(a==0)&&tg.toList.isEmpty):=by simp [Z3,QI,Bool.and_assoc]
theorem Qkr (id pa bf a:Int) (tg nm b:ByteArray):Z3 ⟨5,id,pa,bf,a,tg,nm,b⟩ (QI ⟨5,id,pa,bf,a,tg,nm,b⟩)=((pa==0)&&(bf==0)&&(a==0)&&tg.toList.isEmpty&&b.toList.isEmpty):=by simp [Z3,QI,Bool.and_assoc]
theorem Qln (id pa bf a:Int) (tg nm b:ByteArray):Z3 ⟨6,id,pa,bf,a,tg,nm,b⟩ (QI ⟨6,id,pa,bf,a,tg,nm,b⟩)=((pa==0)&&(bf==0)&&(a==0)&&tg.toList.isEmpty&&nm.toList.isEmpty):=by simp [Z3,QI,Bool.and_assoc]
theorem QaH {R:List RN} (b:Qp R) (id:Int):(∃ k,∃ a:k<R.length,R[k].id=id/\QX R id=(k:Int)) \/ ((∀ n,n ∈ R->n.id≠id)/\QX R id=-1):=by
 by_cases h:∃ k,∃ a:k<R.length,R[k].id=id
 ·obtain ⟨k,a,rfl⟩:=h;exact .inl ⟨k,a,rfl,QiC b a⟩
 refine .inr ⟨λn c e=>?_,Qtd λj d e=>h ⟨j,d,e⟩⟩;obtain ⟨k,a,rfl⟩:=getElem_of_mem c;exact h ⟨k,a,e⟩
def ZA (R:List RN):Prop:=∀ n,n ∈ R->∀ a,a ∈ n.ats->QR a.1=true/\n.tag.toList.isEmpty=false
def QW (c:Qo) (nb:Int->Nat) (d:Nat) (w:World) (q:Nat) (R:List RN) (last:Int) (x:Qn) (b:Bool) (w':World):Prop :=
 b=canP R last x/\∃ a ρ',QV c ρ' w w'/\(∀ i,i≠last+1->a i=nb i)/\Qi ρ' a d (some (a 1)) w' q (if b=true then QU R x else R) (if b=true then Jr last x else last)
theorem QW.no {a:Qo} {nb:Int->Nat} {b:Nat} {w:World} {q:Nat} {R:List RN} {last:Int} {x:Qn} {w':World} (h:Qi a nb b (some (nb 1)) w q R last) (c:canP R last x=false) (hb:Xb w w'):QW a nb b w q R last x false w' := ⟨c.symm,nb,a,⟨Qx.of_below hb,λ_ _=>rfl,λ_ h=>.inl h⟩,λ_ _=>rfl,h.below hb⟩
theorem QW.ok {a ρ':Qo} {nb:Int->Nat} {b:Nat} {w:World} {q:Nat} {R R':List RN} {last:Int} {x:Qn} {w':World} (c:canP R last x=true) (d:QU R x=R') (f:Jr last x=last) (g:QV a ρ' w w') (h:Qi ρ' nb b (some (nb 1)) w' q R' last):QW a nb b w q R last x true w' := ⟨c.symm,nb,ρ',g,λ_ _=>rfl,by rw [if_pos rfl,if_pos rfl,d,f];exact h⟩
theorem QW.after {a:Qo} {nb:Int->Nat} {c:Nat} {w w1:World} {q:Nat} {R:List RN} {last:Int} {x:Qn} {b:Bool} {w':World} (hb:Xb w w1) (h:QW a nb c w1 q R last x b w'):QW a nb c w q R last x b w':=by obtain ⟨f,d,ρ',g,i,j⟩:=h;exact ⟨f,d,ρ',QV.after hb g,i,j⟩
theorem Qdq {last:Int} {x:Qn} (h:x.kind≠1):Jr last x=last:=by unfold Jr;rw [if_neg (by simpa using h)]
end Go.Proofs.YtobgcaemnpkbmaaGreatDoor
