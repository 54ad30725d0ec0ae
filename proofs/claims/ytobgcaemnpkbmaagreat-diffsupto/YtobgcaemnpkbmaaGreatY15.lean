import Derived.Handy
import Derived.Laws.StructEq
import Derived.ChangeKeysEq
import Derived.Test.YtobgcaemnpkbmaaGreatY14
namespace Go.Proofs.YtobgcaemnpkbmaaGreat
set_option maxRecDepth 100000
set_option maxHeartbeats 8000000
open Go.RowKit List
variable {nm:ByteArray} {last:Int} {nb:Int->Nat} {R R':List RN} {k mb o q:Nat} {X:Nat->Qh} {x:Qh} {ρ ρ':Qz} {w w':World}
def QR (x:Qh):Qh :=
 if x.kind=1 then ⟨x.kind,x.id,0,0,x.key,x.tag,⟨#[]⟩,x.text⟩
 else if x.kind=2 then ⟨x.kind,x.id,x.par,x.bef,0,⟨#[]⟩,⟨#[]⟩,⟨#[]⟩⟩
 else if x.kind=4 then ⟨x.kind,x.id,0,0,0,⟨#[]⟩,x.name,x.text⟩
 else if x.kind=5 then ⟨x.kind,x.id,0,0,0,⟨#[]⟩,x.name,⟨#[]⟩⟩
 else if x.kind=6 then ⟨x.kind,x.id,0,0,0,⟨#[]⟩,⟨#[]⟩,x.text⟩
 else ⟨x.kind,x.id,0,0,0,⟨#[]⟩,⟨#[]⟩,⟨#[]⟩⟩
theorem Qsj (id pa bf a:Int) (b nm c:ByteArray) (w:World) : Xl 85 #[.agg #[Xi 1,Xi id,Xi pa,Xi bf,Xi a,.string b,.string nm,.string c]] w λe w'=>e=.returned (QR ⟨1,id,pa,bf,a,b,nm,c⟩).val/\Xb w w':=by go_enter Tryz.func85,Tryz.ntmps85;go_wp2;go_region_held3 (λw'=>w'.cell? (Xa w.heap.size 5)=some (.string b)/\w'.cell? (Xa w.heap.size 4)=some (Xi a)/\w'.cell? (Xa w.heap.size 7)=some (.string c)) (go_keep) (fail);go_wp2_with fail;go_returns;refine ⟨rfl,?_⟩;have d:=((Below.refl w.heap.size w).alloc X0 (.cells #[Xi 1,Xi id,Xi pa,Xi bf,Xi a,.string b,.string nm,.string c] 29));exact ((d.alloc (by simp) _).alloc (by simp;omega) _).drew
theorem Qqe (id pa bf a:Int) (b nm c:ByteArray) (w:World) : Xl 85 #[.agg #[Xi 2,Xi id,Xi pa,Xi bf,Xi a,.string b,.string nm,.string c]] w λe w'=>e=.returned (QR ⟨2,id,pa,bf,a,b,nm,c⟩).val/\Xb w w':=by go_enter Tryz.func85,Tryz.ntmps85;go_wp2;go_region_held3 (λw'=>w'.cell? (Xa w.heap.size 2)=some (Xi pa)/\w'.cell? (Xa w.heap.size 3)=some (Xi bf)) (go_keep) (fail);go_wp2_with fail;go_returns;refine ⟨rfl,?_⟩;have d:=((Below.refl w.heap.size w).alloc X0 (.cells #[Xi 2,Xi id,Xi pa,Xi bf,Xi a,.string b,.string nm,.string c] 29));exact ((d.alloc (by simp) _).alloc (by simp;omega) _).drew
theorem Qtg (id pa bf b:Int) (c nm a:ByteArray) (w:World) : Xl 85 #[.agg #[Xi 4,Xi id,Xi pa,Xi bf,Xi b,.string c,.string nm,.string a]] w λe w'=>e=.returned (QR ⟨4,id,pa,bf,b,c,nm,a⟩).val/\Xb w w':=by go_enter Tryz.func85,Tryz.ntmps85;go_wp2;go_region_held3 (λw'=>w'.cell? (Xa w.heap.size 6)=some (.string nm)/\w'.cell? (Xa w.heap.size 7)=some (.string a)) (go_keep) (fail);go_wp2_with fail;go_returns;refine ⟨rfl,?_⟩;have d:=((Below.refl w.heap.size w).alloc X0 (.cells #[Xi 4,Xi id,Xi pa,Xi bf,Xi b,.string c,.string nm,.string a] 29));exact ((d.alloc (by simp) _).alloc (by simp;omega) _).drew
theorem QqU (id pa bf a:Int) (b nm c:ByteArray) (w:World) : Xl 85 #[.agg #[Xi 5,Xi id,Xi pa,Xi bf,Xi a,.string b,.string nm,.string c]] w λe w'=>e=.returned (QR ⟨5,id,pa,bf,a,b,nm,c⟩).val/\Xb w w':=by go_enter Tryz.func85,Tryz.ntmps85;go_wp2_with fail;go_returns;refine ⟨rfl,?_⟩;have d:=((Below.refl w.heap.size w).alloc X0 (.cells #[Xi 5,Xi id,Xi pa,Xi bf,Xi a,.string b,.string nm,.string c] 29));exact ((d.alloc (by simp) _).alloc (by simp;omega) _)
theorem Qst (id pa bf a:Int) (b nm c:ByteArray) (w:World) : Xl 85 #[.agg #[Xi 6,Xi id,Xi pa,Xi bf,Xi a,.string b,.string nm,.string c]] w λe w'=>e=.returned (QR ⟨6,id,pa,bf,a,b,nm,c⟩).val/\Xb w w':=by go_enter Tryz.func85,Tryz.ntmps85;go_wp2_with fail;go_returns;refine ⟨rfl,?_⟩;have d:=((Below.refl w.heap.size w).alloc X0 (.cells #[Xi 6,Xi id,Xi pa,Xi bf,Xi a,.string b,.string nm,.string c] 29));exact ((d.alloc (by simp) _).alloc (by simp;omega) _)
theorem Qvy (a id pa bf b:Int) (c nm d:ByteArray) (w:World) (g:a≠1) (h:a≠2) (i:a≠4) (j:a≠5) (k:a≠6) : Xl 85 #[.agg #[Xi a,Xi id,Xi pa,Xi bf,Xi b,.string c,.string nm,.string d]] w λe w'=>e=.returned (QR ⟨a,id,pa,bf,b,c,nm,d⟩).val/\Xb w w':=by go_enter Tryz.func85,Tryz.ntmps85;go_wp2_with fail;go_returns;refine ⟨by unfold QR;rw [if_neg g,if_neg h,if_neg i,if_neg j,if_neg k];rfl,?_⟩;have f:=((Below.refl w.heap.size w).alloc X0 (.cells #[Xi a,Xi id,Xi pa,Xi bf,Xi b,.string c,.string nm,.string d] 29));exact ((f.alloc (by simp) _).alloc (by simp;omega) _)
theorem Qdy (x:Qh) (w:World):Xl 85 #[x.val] w λe w'=>e=.returned (QR x).val/\Xb w w':=by
 obtain ⟨a,id,pa,bf,b,c,nm,d⟩:=x;by_cases f:a=1
 ·subst f;exact Qsj id pa bf b c nm d w
 by_cases g:a=2
 ·subst g;exact Qqe id pa bf b c nm d w
 by_cases h:a=4
 ·subst h;exact Qtg id pa bf b c nm d w
 by_cases i:a=5
 ·subst i;exact QqU id pa bf b c nm d w
 by_cases j:a=6
 ·subst j;exact Qst id pa bf b c nm d w
 exact Qvy a id pa bf b c nm d w f g h i j
def Jc (x a:Qh):Bool:=(x.kind==a.kind)&&((x.id==a.id)&&((x.par==a.par)&&((x.bef==a.bef)&&((x.key==a.key)&&((x.tag.toList==a.tag.toList)&&((x.name.toList==a.name.toList)&&(x.text.toList==a.text.toList)))))))
theorem QfY {d:Nat} {f:Field} {k:List Field} {c g:Array Value} {a b:Int} (w:World) (i:(f.type,f.offset,f.name== "_")=(3,o,false)) (n:c[o]?=some (Xi a)) (p:g[o]?=some (Xi b)) : (Op.eqFields (d+1) c g (f::k)).run Tryz.prog w=if (a==b)=true then (Op.eqFields (d+1) c g k).run Tryz.prog w else .ok false w:=by
 obtain ⟨q,i⟩:=Xb8 i;obtain ⟨r,s⟩:=Xb8 i;have m:f.name≠ "_":=by simpa using s
 have l:∀ (h:Array Value) (j:Int),h[o]?=some (Xi j)->(part 3 h o).run Tryz.prog w=.ok (Xi j) w:=λh j t=>run_part_plain _ (by kernel_rfl) t;rw [Op.eqFields,if_pos m,q,r];simp only [Sem.run_bind,l c a n,l g b p,Result.andThen_ok,run_equalIn_int w d 3 .i64 .i64 a b Tryz.underlying3];by_cases e:(a==b)=true
 ·rw [if_pos e,e];simp
 rw [if_neg e,Bool.eq_false_iff.2 e];simp
theorem Qe5 {d:Nat} {f:Field} {k:List Field} {c g:Array Value} {a b:ByteArray} (w:World) (i:(f.type,f.offset,f.name== "_")=(9,o,false)) (n:c[o]?=some (.string a)) (p:g[o]?=some (.string b)) : (Op.eqFields (d+1) c g (f::k)).run Tryz.prog w=if (a.toList==b.toList)=true then (Op.eqFields (d+1) c g k).run Tryz.prog w else .ok false w:=by
 obtain ⟨q,i⟩:=Xb8 i;obtain ⟨r,s⟩:=Xb8 i;have m:f.name≠ "_":=by simpa using s
 have l:∀ (h:Array Value) (j:ByteArray),h[o]?=some (.string j)->(part 9 h o).run Tryz.prog w=.ok (.string j) w:=λh j t=>run_part_plain _ (by kernel_rfl) t;rw [Op.eqFields,if_pos m,q,r];simp only [Sem.run_bind,l c a n,l g b p,Result.andThen_ok,run_equalIn_string w d 9 a b Tryz.underlying9];by_cases e:(a.toList==b.toList)=true
 ·rw [if_pos e,e];simp
 rw [if_neg e,Bool.eq_false_iff.2 e];simp
theorem Qln (x a:Qh) (w:World):(Op.equalIn 10000 29 x.val a.val).run Tryz.prog w=.ok (Jc x a) w:=by
 unfold Qh.val;rw [run_equalIn_agg w _ _ _ _ (by kernel_rfl) (by kernel_rfl)];have b:(Tryz.prog.fieldsOf 29).toList.map (λf=>(f.type,f.offset,f.name== "_"))=[(3,0,false),(3,1,false),(3,2,false),(3,3,false),(3,4,false),(9,5,false),(9,6,false),(9,7,false)]:=by kernel_rfl
 generalize (Tryz.prog.fieldsOf 29).toList=c at *;have d:=congrArg List.length b;rw [length_map] at d;rcases c with _|⟨o,_|⟨p,_|⟨q,_|⟨r,_|⟨s,_|⟨t,_|⟨u,_|⟨v,_|⟨y,c⟩⟩⟩⟩⟩⟩⟩⟩⟩;case cons.cons.cons.cons.cons.cons.cons.cons.nil =>simp only [map_cons,map_nil,List.cons.injEq,and_true] at b;obtain ⟨g,h,i,j,k,l,m,n⟩:=b;rw [QfY w g rfl rfl,QfY w h rfl rfl,QfY w i rfl rfl,QfY w j rfl rfl,QfY w k rfl rfl,Qe5 w l rfl rfl,Qe5 w m rfl rfl,Qe5 w n rfl rfl,Op.eqFields];unfold Jc;cases (x.kind==a.kind)<;>cases (x.id==a.id)<;>cases (x.par==a.par)<;>cases (x.bef==a.bef)<;>cases (x.key==a.key)<;>cases (x.tag.toList==a.tag.toList)<;>cases (x.name.toList==a.name.toList)<;>cases (x.text.toList==a.text.toList)<;>rfl
 all_goals (simp at d)
theorem Qdq (x a:Qh) (w:World):(binOp .neq 29 x.val a.val).run Tryz.prog w=.ok (.bool (!Jc x a)) w:=by have b:=Qln x a w;unfold Qh.val at b ⊢;rw [run_neq_struct,b];rfl
theorem Qs0 (q:Nat) (a id pa bf c:Int) (d nm f:ByteArray) (w:World) (j:Jc ⟨a,id,pa,bf,c,d,nm,f⟩ (QR ⟨a,id,pa,bf,c,d,nm,f⟩)=false) : Xl 70 #[Xp q,.agg #[Xi a,Xi id,Xi pa,Xi bf,Xi c,.string d,.string nm,.string f]] w λe w'=>e=.returned (.bool false)/\Xb w w':=by
 have k:Hid (∀ w1,Xl 85 #[.agg #[Xi a,Xi id,Xi pa,Xi bf,Xi c,.string d,.string nm,.string f]] w1 λe w'=>e=.returned (QR ⟨a,id,pa,bf,c,d,nm,f⟩).val/\Xb w1 w'):=Qa λw1=>Qdy ⟨a,id,pa,bf,c,d,nm,f⟩ w1;have n:∀ w1,(binOp .neq 29 (.agg #[Xi a,Xi id,Xi pa,Xi bf,Xi c,.string d,.string nm,.string f]) (QR ⟨a,id,pa,bf,c,d,nm,f⟩).val).run Tryz.prog w1=.ok (.bool true) w1:=λw1=>by have:=Qdq ⟨a,id,pa,bf,c,d,nm,f⟩ (QR ⟨a,id,pa,bf,c,d,nm,f⟩) w1;rw [j] at this;exact this
 clear j;generalize QR ⟨a,id,pa,bf,c,d,nm,f⟩=r at *;obtain ⟨t,u,v,x,y,z,A,B⟩:=r;simp only [Qh.val] at k n;go_enter Tryz.func70,Tryz.ntmps70;go_wp2_with fail;generalize h:w.alloc (.cells #[Xi a,Xi id,Xi pa,Xi bf,Xi c,.string d,.string nm,.string f] 29)=o;obtain ⟨i,s,C,D,E,F,G,H,I,J⟩:=QbN h;have l:=Qa i;clear h i
 go_region_held3 (λw'=>w'.cell? (Xa w.heap.size 0)=some (Xi a)/\w'.cell? (Xa w.heap.size 1)=some (Xi id)/\w'.cell? (Xa w.heap.size 2)=some (Xi pa)/\w'.cell? (Xa w.heap.size 3)=some (Xi bf)/\w'.cell? (Xa w.heap.size 4)=some (Xi c)/\w'.cell? (Xa w.heap.size 5)=some (.string d)/\w'.cell? (Xa w.heap.size 6)=some (.string nm)/\w'.cell? (Xa w.heap.size 7)=some (.string f))
   (first
     | go_keep
     | (go_split_ands
        refine ⟨?_,?_,?_,?_,?_,?_,?_,?_⟩
        all_goals (rw [g.cell (by simp;omega)];assumption)))
   (first|(go_at_call 85;refine (Qb k _).mono ?_;rintro e p ⟨rfl,g⟩))
 have m:Hid (Xb w p):=Qa ((Qb l).drew.trans ⟨g.os,g.tape,g.output,g.size,λb K=>g.block b (by show b<o.heap.size;omega)⟩);go_wp2;go_ret;exact ⟨rfl,Qb m⟩
theorem QtB (q:Nat) (a id pa bf c:Int) (d nm f:ByteArray) (w:World) (j:Jc ⟨a,id,pa,bf,c,d,nm,f⟩ (QR ⟨a,id,pa,bf,c,d,nm,f⟩)=true) (u:a≠1) (v:a≠2) (x:a≠3) (y:a≠4) (z:a≠5) (A:a≠6) : Xl 70 #[Xp q,.agg #[Xi a,Xi id,Xi pa,Xi bf,Xi c,.string d,.string nm,.string f]] w λe w'=>e=.returned (.bool false)/\Xb w w':=by
 have k:Hid (∀ w1,Xl 85 #[.agg #[Xi a,Xi id,Xi pa,Xi bf,Xi c,.string d,.string nm,.string f]] w1 λe w'=>e=.returned (QR ⟨a,id,pa,bf,c,d,nm,f⟩).val/\Xb w1 w'):=Qa λw1=>Qdy ⟨a,id,pa,bf,c,d,nm,f⟩ w1;have n:∀ w1,(binOp .neq 29 (.agg #[Xi a,Xi id,Xi pa,Xi bf,Xi c,.string d,.string nm,.string f]) (QR ⟨a,id,pa,bf,c,d,nm,f⟩).val).run Tryz.prog w1=.ok (.bool false) w1:=λw1=>by have:=Qdq ⟨a,id,pa,bf,c,d,nm,f⟩ (QR ⟨a,id,pa,bf,c,d,nm,f⟩) w1;rw [j] at this;exact this
 clear j;generalize QR ⟨a,id,pa,bf,c,d,nm,f⟩=s at *;obtain ⟨B,C,D,E,F,G,H,I⟩:=s;simp only [Qh.val] at k n;go_enter Tryz.func70,Tryz.ntmps70;go_wp2_with fail;generalize h:w.alloc (.cells #[Xi a,Xi id,Xi pa,Xi bf,Xi c,.string d,.string nm,.string f] 29)=o;obtain ⟨i,t,p,J,K,L,M,N,O,P⟩:=QbN h;have l:=Qa i;clear h i
 go_region_held3 (λw'=>w'.cell? (Xa w.heap.size 0)=some (Xi a)/\w'.cell? (Xa w.heap.size 1)=some (Xi id)/\w'.cell? (Xa w.heap.size 2)=some (Xi pa)/\w'.cell? (Xa w.heap.size 3)=some (Xi bf)/\w'.cell? (Xa w.heap.size 4)=some (Xi c)/\w'.cell? (Xa w.heap.size 5)=some (.string d)/\w'.cell? (Xa w.heap.size 6)=some (.string nm)/\w'.cell? (Xa w.heap.size 7)=some (.string f))
   (first
     | go_keep
     | (go_split_ands
        refine ⟨?_,?_,?_,?_,?_,?_,?_,?_⟩
        all_goals (rw [g.cell (by simp;omega)];assumption)))
   (first|(go_at_call 85;refine (Qb k _).mono ?_;rintro e r ⟨rfl,g⟩))
 have m:Hid (Xb w r):=Qa ((Qb l).drew.trans ⟨g.os,g.tape,g.output,g.size,λb R=>g.block b (by show b<o.heap.size;omega)⟩);have S:=(Xh g w.heap.size 0 (by (try simp);omega)).trans p;go_wp2;go_ret;exact ⟨rfl,Qb m⟩
theorem Qqn (q:Nat) (id pa bf c:Int) (d nm f:ByteArray) (w:World) (i:Jc ⟨1,id,pa,bf,c,d,nm,f⟩ (QR ⟨1,id,pa,bf,c,d,nm,f⟩)=true) (n:Bool->World->Prop) (j:∀ w1,Xb w w1->Xl 86 #[Xp q,.agg #[Xi 1,Xi id,Xi pa,Xi bf,Xi c,.string d,.string nm,.string f]] w1 λe w'=>∃ b,e=.returned (.bool b)/\n b w') : Xl 70 #[Xp q,.agg #[Xi 1,Xi id,Xi pa,Xi bf,Xi c,.string d,.string nm,.string f]] w λe w'=>∃ b,e=.returned (.bool b)/\n b w':=by
 have k:Hid (∀ w1,Xl 85 #[.agg #[Xi 1,Xi id,Xi pa,Xi bf,Xi c,.string d,.string nm,.string f]] w1 λe w'=>e=.returned (QR ⟨1,id,pa,bf,c,d,nm,f⟩).val/\Xb w1 w'):=Qa λw1=>Qdy ⟨1,id,pa,bf,c,d,nm,f⟩ w1;have t:∀ w1,(binOp .neq 29 (.agg #[Xi 1,Xi id,Xi pa,Xi bf,Xi c,.string d,.string nm,.string f]) (QR ⟨1,id,pa,bf,c,d,nm,f⟩).val).run Tryz.prog w1=.ok (.bool false) w1:=λw1=>by have:=Qdq ⟨1,id,pa,bf,c,d,nm,f⟩ (QR ⟨1,id,pa,bf,c,d,nm,f⟩) w1;rw [i] at this;exact this
 clear i;generalize QR ⟨1,id,pa,bf,c,d,nm,f⟩=E at *;obtain ⟨G,H,I,J,K,L,M,N⟩:=E;simp only [Qh.val] at k t;have o:=Qa j;clear j;go_enter Tryz.func70,Tryz.ntmps70;go_wp2_with fail;generalize g:w.alloc (.cells #[Xi 1,Xi id,Xi pa,Xi bf,Xi c,.string d,.string nm,.string f] 29)=u;obtain ⟨h,F,v,x,y,z,A,B,C,D⟩:=QbN g;have p:=Qa h;clear g h
 go_region_held3 (λw'=>w'.cell? (Xa w.heap.size 0)=some (Xi 1)/\w'.cell? (Xa w.heap.size 1)=some (Xi id)/\w'.cell? (Xa w.heap.size 2)=some (Xi pa)/\w'.cell? (Xa w.heap.size 3)=some (Xi bf)/\w'.cell? (Xa w.heap.size 4)=some (Xi c)/\w'.cell? (Xa w.heap.size 5)=some (.string d)/\w'.cell? (Xa w.heap.size 6)=some (.string nm)/\w'.cell? (Xa w.heap.size 7)=some (.string f))
   (first
     | go_keep
     | (go_split_ands
        refine ⟨?_,?_,?_,?_,?_,?_,?_,?_⟩
        all_goals (rw [a.cell (by simp;omega)];assumption)))
   (first|(go_at_call 85;refine (Qb k _).mono ?_;rintro e l ⟨rfl,a⟩))
 have r:Hid (Xb w l):=Qa ((Qb p).drew.trans ⟨a.os,a.tape,a.output,a.size,λb m=>a.block b (by show b<u.heap.size;omega)⟩);have O:=(Xh a w.heap.size 0 (by (try simp);omega)).trans v;have P:=(Xh a w.heap.size 1 (by (try simp);omega)).trans x;have R:=(Xh a w.heap.size 2 (by (try simp);omega)).trans y;have S:=(Xh a w.heap.size 3 (by (try simp);omega)).trans z;have T:=(Xh a w.heap.size 4 (by (try simp);omega)).trans A;have U:=(Xh a w.heap.size 5 (by (try simp);omega)).trans B;have V:=(Xh a w.heap.size 6 (by (try simp);omega)).trans C;have W:=(Xh a w.heap.size 7 (by (try simp);omega)).trans D;clear a;have s:=Qa (Qb o l (Qb r));go_wp2_with (first|(go_at_call 86;refine (Qb s).mono ?_;rintro e X ⟨b,rfl,m⟩));go_ret;exact ⟨b,rfl,m⟩
theorem Qn1 (q:Nat) (id pa bf c:Int) (d nm f:ByteArray) (w:World) (i:Jc ⟨2,id,pa,bf,c,d,nm,f⟩ (QR ⟨2,id,pa,bf,c,d,nm,f⟩)=true) (n:Bool->World->Prop) (j:∀ w1,Xb w w1->Xl 87 #[Xp q,.agg #[Xi 2,Xi id,Xi pa,Xi bf,Xi c,.string d,.string nm,.string f]] w1 λe w'=>∃ b,e=.returned (.bool b)/\n b w') : Xl 70 #[Xp q,.agg #[Xi 2,Xi id,Xi pa,Xi bf,Xi c,.string d,.string nm,.string f]] w λe w'=>∃ b,e=.returned (.bool b)/\n b w':=by
 have k:Hid (∀ w1,Xl 85 #[.agg #[Xi 2,Xi id,Xi pa,Xi bf,Xi c,.string d,.string nm,.string f]] w1 λe w'=>e=.returned (QR ⟨2,id,pa,bf,c,d,nm,f⟩).val/\Xb w1 w'):=Qa λw1=>Qdy ⟨2,id,pa,bf,c,d,nm,f⟩ w1;have t:∀ w1,(binOp .neq 29 (.agg #[Xi 2,Xi id,Xi pa,Xi bf,Xi c,.string d,.string nm,.string f]) (QR ⟨2,id,pa,bf,c,d,nm,f⟩).val).run Tryz.prog w1=.ok (.bool false) w1:=λw1=>by have:=Qdq ⟨2,id,pa,bf,c,d,nm,f⟩ (QR ⟨2,id,pa,bf,c,d,nm,f⟩) w1;rw [i] at this;exact this
 clear i;generalize QR ⟨2,id,pa,bf,c,d,nm,f⟩=E at *;obtain ⟨G,H,I,J,K,L,M,N⟩:=E;simp only [Qh.val] at k t;have o:=Qa j;clear j;go_enter Tryz.func70,Tryz.ntmps70;go_wp2_with fail;generalize g:w.alloc (.cells #[Xi 2,Xi id,Xi pa,Xi bf,Xi c,.string d,.string nm,.string f] 29)=u;obtain ⟨h,F,v,x,y,z,A,B,C,D⟩:=QbN g;have p:=Qa h;clear g h
 go_region_held3 (λw'=>w'.cell? (Xa w.heap.size 0)=some (Xi 2)/\w'.cell? (Xa w.heap.size 1)=some (Xi id)/\w'.cell? (Xa w.heap.size 2)=some (Xi pa)/\w'.cell? (Xa w.heap.size 3)=some (Xi bf)/\w'.cell? (Xa w.heap.size 4)=some (Xi c)/\w'.cell? (Xa w.heap.size 5)=some (.string d)/\w'.cell? (Xa w.heap.size 6)=some (.string nm)/\w'.cell? (Xa w.heap.size 7)=some (.string f))
   (first
     | go_keep
     | (go_split_ands
        refine ⟨?_,?_,?_,?_,?_,?_,?_,?_⟩
        all_goals (rw [a.cell (by simp;omega)];assumption)))
   (first|(go_at_call 85;refine (Qb k _).mono ?_;rintro e l ⟨rfl,a⟩))
 have r:Hid (Xb w l):=Qa ((Qb p).drew.trans ⟨a.os,a.tape,a.output,a.size,λb m=>a.block b (by show b<u.heap.size;omega)⟩);have O:=(Xh a w.heap.size 0 (by (try simp);omega)).trans v;have P:=(Xh a w.heap.size 1 (by (try simp);omega)).trans x;have R:=(Xh a w.heap.size 2 (by (try simp);omega)).trans y;have S:=(Xh a w.heap.size 3 (by (try simp);omega)).trans z;have T:=(Xh a w.heap.size 4 (by (try simp);omega)).trans A;have U:=(Xh a w.heap.size 5 (by (try simp);omega)).trans B;have V:=(Xh a w.heap.size 6 (by (try simp);omega)).trans C;have W:=(Xh a w.heap.size 7 (by (try simp);omega)).trans D;clear a;have s:=Qa (Qb o l (Qb r));go_wp2_with (first|(go_at_call 87;refine (Qb s).mono ?_;rintro e X ⟨b,rfl,m⟩));go_ret;exact ⟨b,rfl,m⟩
theorem Qv5 (q:Nat) (id pa bf c:Int) (d nm f:ByteArray) (w:World) (i:Jc ⟨3,id,pa,bf,c,d,nm,f⟩ (QR ⟨3,id,pa,bf,c,d,nm,f⟩)=true) (n:Bool->World->Prop) (j:∀ w1,Xb w w1->Xl 88 #[Xp q,.agg #[Xi 3,Xi id,Xi pa,Xi bf,Xi c,.string d,.string nm,.string f]] w1 λe w'=>∃ b,e=.returned (.bool b)/\n b w') : Xl 70 #[Xp q,.agg #[Xi 3,Xi id,Xi pa,Xi bf,Xi c,.string d,.string nm,.string f]] w λe w'=>∃ b,e=.returned (.bool b)/\n b w':=by
 have k:Hid (∀ w1,Xl 85 #[.agg #[Xi 3,Xi id,Xi pa,Xi bf,Xi c,.string d,.string nm,.string f]] w1 λe w'=>e=.returned (QR ⟨3,id,pa,bf,c,d,nm,f⟩).val/\Xb w1 w'):=Qa λw1=>Qdy ⟨3,id,pa,bf,c,d,nm,f⟩ w1;have t:∀ w1,(binOp .neq 29 (.agg #[Xi 3,Xi id,Xi pa,Xi bf,Xi c,.string d,.string nm,.string f]) (QR ⟨3,id,pa,bf,c,d,nm,f⟩).val).run Tryz.prog w1=.ok (.bool false) w1:=λw1=>by have:=Qdq ⟨3,id,pa,bf,c,d,nm,f⟩ (QR ⟨3,id,pa,bf,c,d,nm,f⟩) w1;rw [i] at this;exact this
 clear i;generalize QR ⟨3,id,pa,bf,c,d,nm,f⟩=E at *;obtain ⟨G,H,I,J,K,L,M,N⟩:=E;simp only [Qh.val] at k t;have o:=Qa j;clear j;go_enter Tryz.func70,Tryz.ntmps70;go_wp2_with fail;generalize g:w.alloc (.cells #[Xi 3,Xi id,Xi pa,Xi bf,Xi c,.string d,.string nm,.string f] 29)=u;obtain ⟨h,F,v,x,y,z,A,B,C,D⟩:=QbN g;have p:=Qa h;clear g h
 go_region_held3 (λw'=>w'.cell? (Xa w.heap.size 0)=some (Xi 3)/\w'.cell? (Xa w.heap.size 1)=some (Xi id)/\w'.cell? (Xa w.heap.size 2)=some (Xi pa)/\w'.cell? (Xa w.heap.size 3)=some (Xi bf)/\w'.cell? (Xa w.heap.size 4)=some (Xi c)/\w'.cell? (Xa w.heap.size 5)=some (.string d)/\w'.cell? (Xa w.heap.size 6)=some (.string nm)/\w'.cell? (Xa w.heap.size 7)=some (.string f))
   (first
     | go_keep
     | (go_split_ands
        refine ⟨?_,?_,?_,?_,?_,?_,?_,?_⟩
        all_goals (rw [a.cell (by simp;omega)];assumption)))
   (first|(go_at_call 85;refine (Qb k _).mono ?_;rintro e l ⟨rfl,a⟩))
 have r:Hid (Xb w l):=Qa ((Qb p).drew.trans ⟨a.os,a.tape,a.output,a.size,λb m=>a.block b (by show b<u.heap.size;omega)⟩);have O:=(Xh a w.heap.size 0 (by (try simp);omega)).trans v;have P:=(Xh a w.heap.size 1 (by (try simp);omega)).trans x;have R:=(Xh a w.heap.size 2 (by (try simp);omega)).trans y;have S:=(Xh a w.heap.size 3 (by (try simp);omega)).trans z;have T:=(Xh a w.heap.size 4 (by (try simp);omega)).trans A;have U:=(Xh a w.heap.size 5 (by (try simp);omega)).trans B;have V:=(Xh a w.heap.size 6 (by (try simp);omega)).trans C;have W:=(Xh a w.heap.size 7 (by (try simp);omega)).trans D;clear a;have s:=Qa (Qb o l (Qb r));go_wp2_with (first|(go_at_call 88;refine (Qb s).mono ?_;rintro e X ⟨b,rfl,m⟩));go_ret;exact ⟨b,rfl,m⟩
theorem QsP (q:Nat) (id pa bf c:Int) (d nm f:ByteArray) (w:World) (i:Jc ⟨4,id,pa,bf,c,d,nm,f⟩ (QR ⟨4,id,pa,bf,c,d,nm,f⟩)=true) (n:Bool->World->Prop) (j:∀ w1,Xb w w1->Xl 89 #[Xp q,.agg #[Xi 4,Xi id,Xi pa,Xi bf,Xi c,.string d,.string nm,.string f]] w1 λe w'=>∃ b,e=.returned (.bool b)/\n b w') : Xl 70 #[Xp q,.agg #[Xi 4,Xi id,Xi pa,Xi bf,Xi c,.string d,.string nm,.string f]] w λe w'=>∃ b,e=.returned (.bool b)/\n b w':=by
 have k:Hid (∀ w1,Xl 85 #[.agg #[Xi 4,Xi id,Xi pa,Xi bf,Xi c,.string d,.string nm,.string f]] w1 λe w'=>e=.returned (QR ⟨4,id,pa,bf,c,d,nm,f⟩).val/\Xb w1 w'):=Qa λw1=>Qdy ⟨4,id,pa,bf,c,d,nm,f⟩ w1;have t:∀ w1,(binOp .neq 29 (.agg #[Xi 4,Xi id,Xi pa,Xi bf,Xi c,.string d,.string nm,.string f]) (QR ⟨4,id,pa,bf,c,d,nm,f⟩).val).run Tryz.prog w1=.ok (.bool false) w1:=λw1=>by have:=Qdq ⟨4,id,pa,bf,c,d,nm,f⟩ (QR ⟨4,id,pa,bf,c,d,nm,f⟩) w1;rw [i] at this;exact this
 clear i;generalize QR ⟨4,id,pa,bf,c,d,nm,f⟩=E at *;obtain ⟨G,H,I,J,K,L,M,N⟩:=E;simp only [Qh.val] at k t;have o:=Qa j;clear j;go_enter Tryz.func70,Tryz.ntmps70;go_wp2_with fail;generalize g:w.alloc (.cells #[Xi 4,Xi id,Xi pa,Xi bf,Xi c,.string d,.string nm,.string f] 29)=u;obtain ⟨h,F,v,x,y,z,A,B,C,D⟩:=QbN g;have p:=Qa h;clear g h
 go_region_held3 (λw'=>w'.cell? (Xa w.heap.size 0)=some (Xi 4)/\w'.cell? (Xa w.heap.size 1)=some (Xi id)/\w'.cell? (Xa w.heap.size 2)=some (Xi pa)/\w'.cell? (Xa w.heap.size 3)=some (Xi bf)/\w'.cell? (Xa w.heap.size 4)=some (Xi c)/\w'.cell? (Xa w.heap.size 5)=some (.string d)/\w'.cell? (Xa w.heap.size 6)=some (.string nm)/\w'.cell? (Xa w.heap.size 7)=some (.string f))
   (first
     | go_keep
     | (go_split_ands
        refine ⟨?_,?_,?_,?_,?_,?_,?_,?_⟩
        all_goals (rw [a.cell (by simp;omega)];assumption)))
   (first|(go_at_call 85;refine (Qb k _).mono ?_;rintro e l ⟨rfl,a⟩))
 have r:Hid (Xb w l):=Qa ((Qb p).drew.trans ⟨a.os,a.tape,a.output,a.size,λb m=>a.block b (by show b<u.heap.size;omega)⟩);have O:=(Xh a w.heap.size 0 (by (try simp);omega)).trans v;have P:=(Xh a w.heap.size 1 (by (try simp);omega)).trans x;have R:=(Xh a w.heap.size 2 (by (try simp);omega)).trans y;have S:=(Xh a w.heap.size 3 (by (try simp);omega)).trans z;have T:=(Xh a w.heap.size 4 (by (try simp);omega)).trans A;have U:=(Xh a w.heap.size 5 (by (try simp);omega)).trans B;have V:=(Xh a w.heap.size 6 (by (try simp);omega)).trans C;have W:=(Xh a w.heap.size 7 (by (try simp);omega)).trans D;clear a;have s:=Qa (Qb o l (Qb r));go_wp2_with (first|(go_at_call 89;refine (Qb s).mono ?_;rintro e X ⟨b,rfl,m⟩));go_ret;exact ⟨b,rfl,m⟩
theorem Qsa (q:Nat) (id pa bf c:Int) (d nm f:ByteArray) (w:World) (i:Jc ⟨5,id,pa,bf,c,d,nm,f⟩ (QR ⟨5,id,pa,bf,c,d,nm,f⟩)=true) (n:Bool->World->Prop) (j:∀ w1,Xb w w1->Xl 90 #[Xp q,.agg #[Xi 5,Xi id,Xi pa,Xi bf,Xi c,.string d,.string nm,.string f]] w1 λe w'=>∃ b,e=.returned (.bool b)/\n b w') : Xl 70 #[Xp q,.agg #[Xi 5,Xi id,Xi pa,Xi bf,Xi c,.string d,.string nm,.string f]] w λe w'=>∃ b,e=.returned (.bool b)/\n b w':=by
 have k:Hid (∀ w1,Xl 85 #[.agg #[Xi 5,Xi id,Xi pa,Xi bf,Xi c,.string d,.string nm,.string f]] w1 λe w'=>e=.returned (QR ⟨5,id,pa,bf,c,d,nm,f⟩).val/\Xb w1 w'):=Qa λw1=>Qdy ⟨5,id,pa,bf,c,d,nm,f⟩ w1;have t:∀ w1,(binOp .neq 29 (.agg #[Xi 5,Xi id,Xi pa,Xi bf,Xi c,.string d,.string nm,.string f]) (QR ⟨5,id,pa,bf,c,d,nm,f⟩).val).run Tryz.prog w1=.ok (.bool false) w1:=λw1=>by have:=Qdq ⟨5,id,pa,bf,c,d,nm,f⟩ (QR ⟨5,id,pa,bf,c,d,nm,f⟩) w1;rw [i] at this;exact this
 clear i;generalize QR ⟨5,id,pa,bf,c,d,nm,f⟩=E at *;obtain ⟨G,H,I,J,K,L,M,N⟩:=E;simp only [Qh.val] at k t;have o:=Qa j;clear j;go_enter Tryz.func70,Tryz.ntmps70;go_wp2_with fail;generalize g:w.alloc (.cells #[Xi 5,Xi id,Xi pa,Xi bf,Xi c,.string d,.string nm,.string f] 29)=u;obtain ⟨h,F,v,x,y,z,A,B,C,D⟩:=QbN g;have p:=Qa h;clear g h
 go_region_held3 (λw'=>w'.cell? (Xa w.heap.size 0)=some (Xi 5)/\w'.cell? (Xa w.heap.size 1)=some (Xi id)/\w'.cell? (Xa w.heap.size 2)=some (Xi pa)/\w'.cell? (Xa w.heap.size 3)=some (Xi bf)/\w'.cell? (Xa w.heap.size 4)=some (Xi c)/\w'.cell? (Xa w.heap.size 5)=some (.string d)/\w'.cell? (Xa w.heap.size 6)=some (.string nm)/\w'.cell? (Xa w.heap.size 7)=some (.string f))
   (first
     | go_keep
     | (go_split_ands
        refine ⟨?_,?_,?_,?_,?_,?_,?_,?_⟩
        all_goals (rw [a.cell (by simp;omega)];assumption)))
   (first|(go_at_call 85;refine (Qb k _).mono ?_;rintro e l ⟨rfl,a⟩))
 have r:Hid (Xb w l):=Qa ((Qb p).drew.trans ⟨a.os,a.tape,a.output,a.size,λb m=>a.block b (by show b<u.heap.size;omega)⟩);have O:=(Xh a w.heap.size 0 (by (try simp);omega)).trans v;have P:=(Xh a w.heap.size 1 (by (try simp);omega)).trans x;have R:=(Xh a w.heap.size 2 (by (try simp);omega)).trans y;have S:=(Xh a w.heap.size 3 (by (try simp);omega)).trans z;have T:=(Xh a w.heap.size 4 (by (try simp);omega)).trans A;have U:=(Xh a w.heap.size 5 (by (try simp);omega)).trans B;have V:=(Xh a w.heap.size 6 (by (try simp);omega)).trans C;have W:=(Xh a w.heap.size 7 (by (try simp);omega)).trans D;clear a;have s:=Qa (Qb o l (Qb r));go_wp2_with (first|(go_at_call 90;refine (Qb s).mono ?_;rintro e X ⟨b,rfl,m⟩));go_ret;exact ⟨b,rfl,m⟩
theorem QsF (q:Nat) (id pa bf c:Int) (d nm f:ByteArray) (w:World) (i:Jc ⟨6,id,pa,bf,c,d,nm,f⟩ (QR ⟨6,id,pa,bf,c,d,nm,f⟩)=true) (n:Bool->World->Prop) (j:∀ w1,Xb w w1->Xl 91 #[Xp q,.agg #[Xi 6,Xi id,Xi pa,Xi bf,Xi c,.string d,.string nm,.string f]] w1 λe w'=>∃ b,e=.returned (.bool b)/\n b w') : Xl 70 #[Xp q,.agg #[Xi 6,Xi id,Xi pa,Xi bf,Xi c,.string d,.string nm,.string f]] w λe w'=>∃ b,e=.returned (.bool b)/\n b w':=by
 have k:Hid (∀ w1,Xl 85 #[.agg #[Xi 6,Xi id,Xi pa,Xi bf,Xi c,.string d,.string nm,.string f]] w1 λe w'=>e=.returned (QR ⟨6,id,pa,bf,c,d,nm,f⟩).val/\Xb w1 w'):=Qa λw1=>Qdy ⟨6,id,pa,bf,c,d,nm,f⟩ w1;have t:∀ w1,(binOp .neq 29 (.agg #[Xi 6,Xi id,Xi pa,Xi bf,Xi c,.string d,.string nm,.string f]) (QR ⟨6,id,pa,bf,c,d,nm,f⟩).val).run Tryz.prog w1=.ok (.bool false) w1:=λw1=>by have:=Qdq ⟨6,id,pa,bf,c,d,nm,f⟩ (QR ⟨6,id,pa,bf,c,d,nm,f⟩) w1;rw [i] at this;exact this
 clear i;generalize QR ⟨6,id,pa,bf,c,d,nm,f⟩=E at *;obtain ⟨G,H,I,J,K,L,M,N⟩:=E;simp only [Qh.val] at k t;have o:=Qa j;clear j;go_enter Tryz.func70,Tryz.ntmps70;go_wp2_with fail;generalize g:w.alloc (.cells #[Xi 6,Xi id,Xi pa,Xi bf,Xi c,.string d,.string nm,.string f] 29)=u;obtain ⟨h,F,v,x,y,z,A,B,C,D⟩:=QbN g;have p:=Qa h;clear g h
 go_region_held3 (λw'=>w'.cell? (Xa w.heap.size 0)=some (Xi 6)/\w'.cell? (Xa w.heap.size 1)=some (Xi id)/\w'.cell? (Xa w.heap.size 2)=some (Xi pa)/\w'.cell? (Xa w.heap.size 3)=some (Xi bf)/\w'.cell? (Xa w.heap.size 4)=some (Xi c)/\w'.cell? (Xa w.heap.size 5)=some (.string d)/\w'.cell? (Xa w.heap.size 6)=some (.string nm)/\w'.cell? (Xa w.heap.size 7)=some (.string f))
   (first
     | go_keep
     | (go_split_ands
        refine ⟨?_,?_,?_,?_,?_,?_,?_,?_⟩
        all_goals (rw [a.cell (by simp;omega)];assumption)))
   (first|(go_at_call 85;refine (Qb k _).mono ?_;rintro e l ⟨rfl,a⟩))
 have r:Hid (Xb w l):=Qa ((Qb p).drew.trans ⟨a.os,a.tape,a.output,a.size,λb m=>a.block b (by show b<u.heap.size;omega)⟩);have O:=(Xh a w.heap.size 0 (by (try simp);omega)).trans v;have P:=(Xh a w.heap.size 1 (by (try simp);omega)).trans x;have R:=(Xh a w.heap.size 2 (by (try simp);omega)).trans y;have S:=(Xh a w.heap.size 3 (by (try simp);omega)).trans z;have T:=(Xh a w.heap.size 4 (by (try simp);omega)).trans A;have U:=(Xh a w.heap.size 5 (by (try simp);omega)).trans B;have V:=(Xh a w.heap.size 6 (by (try simp);omega)).trans C;have W:=(Xh a w.heap.size 7 (by (try simp);omega)).trans D;clear a;have s:=Qa (Qb o l (Qb r));go_wp2_with (first|(go_at_call 91;refine (Qb s).mono ?_;rintro e X ⟨b,rfl,m⟩));go_ret;exact ⟨b,rfl,m⟩
theorem Qlp (id pa bf a:Int) (b nm c:ByteArray):Jc ⟨1,id,pa,bf,a,b,nm,c⟩ (QR ⟨1,id,pa,bf,a,b,nm,c⟩)=((pa==0)&&(bf==0)&&nm.toList.isEmpty):=by simp [Jc,QR,Bool.and_assoc]
theorem QjI (id pa bf a:Int) (b nm c:ByteArray):Jc ⟨2,id,pa,bf,a,b,nm,c⟩ (QR ⟨2,id,pa,bf,a,b,nm,c⟩)=((a==0)&&b.toList.isEmpty&&nm.toList.isEmpty&&c.toList.isEmpty):=by simp [Jc,QR,Bool.and_assoc]
theorem QnH (id pa bf a:Int) (b nm c:ByteArray):Jc ⟨3,id,pa,bf,a,b,nm,c⟩ (QR ⟨3,id,pa,bf,a,b,nm,c⟩)=((pa==0)&&(bf==0)&&(a==0)&&b.toList.isEmpty&&nm.toList.isEmpty&&c.toList.isEmpty):=by simp [Jc,QR,Bool.and_assoc]
theorem QmO (id pa bf a:Int) (b nm c:ByteArray):Jc ⟨4,id,pa,bf,a,b,nm,c⟩ (QR ⟨4,id,pa,bf,a,b,nm,c⟩)=((pa==0)&&(bf==0)&&(a==0)&&b.toList.isEmpty):=by simp [Jc,QR,Bool.and_assoc]
theorem Ql2 (id pa bf a:Int) (b nm c:ByteArray):Jc ⟨5,id,pa,bf,a,b,nm,c⟩ (QR ⟨5,id,pa,bf,a,b,nm,c⟩)=((pa==0)&&(bf==0)&&(a==0)&&b.toList.isEmpty&&c.toList.isEmpty):=by simp [Jc,QR,Bool.and_assoc]
theorem QkH (id pa bf a:Int) (b nm c:ByteArray):Jc ⟨6,id,pa,bf,a,b,nm,c⟩ (QR ⟨6,id,pa,bf,a,b,nm,c⟩)=((pa==0)&&(bf==0)&&(a==0)&&b.toList.isEmpty&&nm.toList.isEmpty):=by simp [Jc,QR,Bool.and_assoc]
theorem QaG (c:Qx R) (id:Int):(∃ k,∃ a:k<R.length,R[k].id=id/\Qk R id=(k:Int)) \/ ((∀ n,n ∈ R->n.id≠id)/\Qk R id=-1):=by
 by_cases b:∃ k,∃ a:k<R.length,R[k].id=id
 ·obtain ⟨k,a,rfl⟩:=b;exact .inl ⟨k,a,rfl,Qgx c a⟩
 refine .inr ⟨λn d e=>?_,Qmv λj f e=>b ⟨j,f,e⟩⟩;obtain ⟨k,a,rfl⟩:=Xa3 d;exact b ⟨k,a,e⟩
def Zw (R:List RN):Prop:=∀ n,n ∈ R->∀ a,a ∈ n.ats->QK a.1=true/\n.tag.toList.isEmpty=false
def Za (c:Qz) (nb:Int->Nat) (d:Nat) (w:World) (q:Nat) (R:List RN) (last:Int) (x:Qh) (b:Bool) (w':World):Prop :=
 b=canP R last x/\∃ a ρ',Zj c ρ' w w'/\(∀ i,i≠last+1->a i=nb i)/\Ql ρ' a d (some (a 1)) w' q (if b=true then QN R x else R) (if b=true then Jz last x else last)
theorem Za.no (a:Ql ρ nb mb (some (nb 1)) w q R last) (c:canP R last x=false) (b:Xb w w'):Za ρ nb mb w q R last x false w' := ⟨c.symm,nb,ρ,⟨Qi.of_below b,λ_ _=>rfl,λ_ a=>.inl a⟩,λ_ _=>rfl,a.below b⟩
theorem Za.ok (a:canP R last x=true) (b:QN R x=R') (c:Jz last x=last) (d:Zj ρ ρ' w w') (f:Ql ρ' nb mb (some (nb 1)) w' q R' last):Za ρ nb mb w q R last x true w' := ⟨a.symm,nb,ρ',d,λ_ _=>rfl,by rw [if_pos rfl,if_pos rfl,b,c];exact f⟩
theorem Za.after {a:Qz} {nb:Int->Nat} {c:Nat} {w w1:World} {q:Nat} {R:List RN} {last:Int} {x:Qh} {b:Bool} {w':World} (f:Xb w w1) (k:Za a nb c w1 q R last x b w'):Za a nb c w q R last x b w':=by obtain ⟨g,d,ρ',h,i,j⟩:=k;exact ⟨g,d,ρ',Zj.after f h,i,j⟩
theorem QdQ (a:x.kind≠1):Jz last x=last:=by unfold Jz;rw [if_neg (by simpa using a)]
theorem Qw.small (b:Qw R last) (c:last<=4611686018427387904):∀ n,n ∈ R->Qu n.id:=λn a=>by have d:=b.ids.pos n a;have f:=b.top n a;unfold Qu;omega
theorem Qw.tops (a:Qw R last):∀ n,n ∈ R->n.id<=last/\0<=n.par/\n.par<=last:=λn b=>by
 obtain ⟨rk,d⟩:=a.up;refine ⟨a.top n b,?_⟩;have f:=a.last_pos;rcases d.par n b with e|⟨m,c,e⟩
 ·omega
 have g:=a.ids.pos m c;have h:=a.top m c;omega
theorem Qd0 {s:ByteArray} (a:QK s=true):s.size<=8:=by unfold QK at a;simp at a;omega
theorem Qiv (s:ByteArray):decide ((s.size:Int)<=20)=ZD s:=by
 unfold ZD;by_cases a:s.size<=20
 ·rw [decide_eq_true a,decide_eq_true (by omega)]
 rw [decide_eq_false a,decide_eq_false (by omega)]
theorem QmL {n:RN} (b:ZM n.ats):Qcb n x=Zu n.ats x.name:=by
 unfold Qcb;rw [QiE b];cases a:Zu n.ats x.name with
 | false=>simp
 | true =>
  have c:QB n.ats x.name<n.ats.length:=by unfold Zu at a;simp only [Bool.and_eq_true,decide_eq_true_eq] at a;exact a.1
  rw [if_pos rfl];refine Xc4 ?_;rw [length_append,length_take,length_drop];omega
theorem QpE {a b:ByteArray} (c:ZL a b=true):a=b:=by have c:=Qfe.1 c;rw [ByteArray.toList_eq,ByteArray.toList_eq] at c;cases a;cases b;exact congrArg ByteArray.mk (Array.toList_inj.1 c)
theorem Zw.hit (f:Zw R) {n:RN} (g:n ∈ R) (a:Zu n.ats nm=true):QK nm=true/\n.tag.toList.isEmpty=false:=by
 unfold Zu at a;simp only [Bool.and_eq_true,decide_eq_true_eq] at a;obtain ⟨b,c⟩:=a;have h:Qa1 n.ats (QB n.ats nm)=n.ats[QB n.ats nm]:=by unfold Qa1;simp [b]
 rw [h] at c;obtain ⟨d,i⟩:=f n g _ (Xa0 b);have e:(n.ats[QB n.ats nm]).1=nm:=QpE c;rw [e] at d;exact ⟨d,i⟩
section
variable (ρ : Qz) (nb : Int → Nat) (mb : Nat) (w : World) (q : Nat) (R : List RN) (last : Int) (h : Ql ρ nb mb (some (nb 1)) w q R last) (hok : Qw R last)
include h hok
theorem Qqp (p:last<=4611686018427387904) (id pa bf d:Int) (a nm c:ByteArray) (m:Qh.Ok ⟨1,id,pa,bf,d,a,nm,c⟩) (x:pa=0) (y:bf=0) (z:nm.toList.isEmpty=true) : Xl 86 #[Xp q,.agg #[Xi 1,Xi id,Xi pa,Xi bf,Xi d,.string a,.string nm,.string c]] w λe w'=>∃ b,e=.returned (.bool b)/\Za ρ nb mb w q R last ⟨1,id,pa,bf,d,a,nm,c⟩ b w':=by
 have u:canP R last ⟨1,id,pa,bf,d,a,nm,c⟩=(ZZ (JP a d c)&&(id==last+1)&&decide (R.length<800)):=by show Jy R.length last ⟨1,id,pa,bf,d,a,nm,c⟩=_;subst x y;simp [Jy,z]
 have D:=hok.last_pos;by_cases g:id=last+1
 ·by_cases r:R.length<800
  ·have v:∀ (j:Int->Nat) (ρ':Qz) (w':World),(∀ i,i≠last+1->j i=nb i)->Zj ρ ρ' w w'->Ql ρ' j mb (some (nb 1)) w' q (R++[{ id:=last+1,par:=0,tag:=a,key:=d,text:=c,ats:=[],ao:=none,an:=0,ac:=0 }]) (last+1)->ZZ (JP a d c)=true->Za ρ nb mb w q R last ⟨1,id,pa,bf,d,a,nm,c⟩ true w':=λj ρ' w' n s f t=>by
    refine ⟨by rw [u,t,g];simp [r],j,ρ',s,n,?_⟩;rw [n 1 (by omega),if_pos rfl,if_pos rfl];have A:QN R ⟨1,id,pa,bf,d,a,nm,c⟩=R++[{ id:=last+1,par:=0,tag:=a,key:=d,text:=c,ats:=[],ao:=none,an:=0,ac:=0 }]:=by rw [<- g];rfl
    have B:Jz last ⟨1,id,pa,bf,d,a,nm,c⟩=last+1:=by rw [<- g];rfl
    rw [A,B];exact f
   cases k:Ze (JP a d c) with
   | true =>
    have F:a.size<=8:=Qd0 (by have:=k;unfold Ze at this;simp only [Bool.and_eq_true] at this;exact this.1.1.1);have C:c.size=0:=by
     have:=k;unfold Ze at this;simp only [Bool.and_eq_true] at this;have s:c.toList=[]:=isEmpty_iff.1 this.1.1.2;have f:c.toList.length=c.size:=by rw [ByteArray.toList_eq,Array.length_toList];rfl
     rw [s] at f;exact f.symm
    refine (Qu4 ρ nb mb _ w q R last h 1 id pa bf d a nm c (by omega) p m.tag m.text r hok.ids hok.tops (by omega) (by omega) g k).mono ?_;rintro e w' ⟨rfl,j,ρ',n,_,f,t⟩;exact ⟨true,rfl,v j ρ' w' n f t (by unfold ZZ;rw [k];rfl)⟩
   | false =>
    cases l:Zx (JP a d c) with
    | true =>
     have C:a.size=0:=by
      have:=l;unfold Zx at this;simp only [Bool.and_eq_true] at this;have s:a.toList=[]:=isEmpty_iff.1 this.1.1.1;have f:a.toList.length=a.size:=by rw [ByteArray.toList_eq,Array.length_toList];rfl
      rw [s] at f;exact f.symm
     have E:c.size<=20:=by have:=l;unfold Zx ZD at this;simp only [Bool.and_eq_true,decide_eq_true_eq] at this;exact this.2
     refine (Quh ρ nb mb _ w q R last h 1 id pa bf d a nm c (by omega) p m.tag m.text r hok.ids hok.tops (by omega) (by omega) g k l).mono ?_;rintro e w' ⟨rfl,j,ρ',n,_,f,t⟩;exact ⟨true,rfl,v j ρ' w' n f t (by unfold ZZ;rw [l,Bool.or_true])⟩
    | false =>refine (QuU ρ nb mb _ w q R last h 1 id pa bf d a nm c (by omega) p m.tag m.text r g k l).mono ?_;rintro e w' ⟨rfl,o⟩;exact ⟨false,rfl,Za.no h (by rw [u];unfold ZZ;rw [k,l];rfl) o⟩
  subst g;refine (Qu2 ρ nb mb _ w q R last h 1 pa bf d a nm c (by omega) p (by omega)).mono ?_;rintro e w' ⟨rfl,o⟩;exact ⟨false,rfl,Za.no h (by rw [u];simp [r]) o⟩
 refine (Qt3 ρ nb mb _ w q R last h 1 id pa bf d a nm c (by omega) p g).mono ?_;rintro e w' ⟨rfl,o⟩;exact ⟨false,rfl,Za.no h (by rw [u];simp [g]) o⟩
theorem QoX (u:last<=4611686018427387904) (id pa bf a:Int) (c nm d:ByteArray) (l:Qu id) (v:pa=0) (x:bf=0) (y:a=0) (z:c.toList.isEmpty=true) (A:nm.toList.isEmpty=true) (B:d.toList.isEmpty=true) : Xl 88 #[Xp q,.agg #[Xi 3,Xi id,Xi pa,Xi bf,Xi a,.string c,.string nm,.string d]] w λe w'=>∃ b,e=.returned (.bool b)/\Za ρ nb mb w q R last ⟨3,id,pa,bf,a,c,nm,d⟩ b w':=by
 have i:canP R last ⟨3,id,pa,bf,a,c,nm,d⟩=(decide (0<=Qk R id)&&!(id==1)):=by subst v x y;simp [canP,Qcv,z,A,B]
 obtain ⟨E,o,m,_⟩:=hok.root;obtain ⟨r,n,rfl⟩:=Xa3 o;rcases QaG hok.ids id with ⟨k,p,s,f⟩|⟨t,f⟩
 ·by_cases j:id=1
  ·subst j;refine (Qvi ρ nb mb w q R last h 3 pa bf a c nm d r n m).mono ?_;rintro e w' ⟨rfl,g⟩;exact ⟨false,rfl,Za.no h (by rw [i];simp) g⟩
  refine (QtJ ρ nb mb w q R last h 3 id pa bf a c nm d l hok.ids hok.up (hok.small u) k p s j r n m).mono ?_;rintro e w' ⟨rfl,ρ',C,D⟩;refine ⟨true,rfl,Za.ok (by rw [i,f];simp [j]) ?_ (QdQ (by simp)) C D⟩;show Jl R (Qo R R.length (Qk R id).toNat 0)=_;rw [f,Int.toNat_natCast]
 refine (Qq4 ρ nb mb w q R last h 3 id pa bf a c nm d l t).mono ?_;rintro e w' ⟨rfl,g⟩;exact ⟨false,rfl,Za.no h (by rw [i,f];simp) g⟩
theorem Qoe (id pa bf c:Int) (d nm a:ByteArray) (s:Qh.Ok ⟨6,id,pa,bf,c,d,nm,a⟩) (p:Qu id) (u:pa=0) (v:bf=0) (x:c=0) (y:d.toList.isEmpty=true) (z:nm.toList.isEmpty=true) : Xl 91 #[Xp q,.agg #[Xi 6,Xi id,Xi pa,Xi bf,Xi c,.string d,.string nm,.string a]] w λe w'=>∃ b,e=.returned (.bool b)/\Za ρ nb mb w q R last ⟨6,id,pa,bf,c,d,nm,a⟩ b w':=by
 rcases QaG hok.ids id with ⟨k,l,m,i⟩|⟨t,i⟩
 ·have r:ZI R ⟨6,id,pa,bf,c,d,nm,a⟩=R[k]:=by unfold ZI;rw [i,Int.toNat_natCast,JT l]
  have o:canP R last ⟨6,id,pa,bf,c,d,nm,a⟩=(ZD a&&R[k].tag.toList.isEmpty):=by subst u v x;simp [canP,Qcq,y,z,r,i,Qiv]
  have n:Qu R[k].id:=by rw [m];exact p
  cases g:R[k].tag.toList.isEmpty with
  | false =>refine (Qvv ρ nb mb _ w q R last h 6 id pa bf c d nm a k l n m g).mono ?_;rintro e w' ⟨rfl,j⟩;exact ⟨false,rfl,Za.no h (by rw [o,g,Bool.and_false]) j⟩
  | true =>
   cases f:ZD a with
   | false =>refine (Qwb ρ nb mb _ w q R last h 6 id pa bf c d nm a k l n m g s.text f).mono ?_;rintro e w' ⟨rfl,j⟩;exact ⟨false,rfl,Za.no h (by rw [o,f,Bool.false_and]) j⟩
   | true =>
    have C:a.size<=20:=by unfold ZD at f;simpa using f
    refine (Qwy ρ nb mb _ w q R last h 6 id pa bf c d nm a k l n m hok.ids g s.text (by omega) f).mono ?_;rintro e w' ⟨rfl,ρ',A,B⟩;refine ⟨true,rfl,Za.ok (by rw [o,f,g];rfl) ?_ (QdQ (by simp)) A B⟩;show R.set (Qk R id).toNat { ZI R ⟨6,id,pa,bf,c,d,nm,a⟩ with text:=a }=_;rw [r,i,Int.toNat_natCast]
 refine (Qp0 ρ nb mb _ w q R last h 6 id pa bf c d nm a p t).mono ?_;rintro e w' ⟨rfl,j⟩;exact ⟨false,rfl,Za.no h (by unfold canP;simp [i]) j⟩
theorem QvK (z:Zw R) (id pa bf c:Int) (d nm a:ByteArray) (o:Qu id) (A:pa=0) (B:bf=0) (C:c=0) (D:d.toList.isEmpty=true) (s:a.toList.isEmpty=true) : Xl 90 #[Xp q,.agg #[Xi 5,Xi id,Xi pa,Xi bf,Xi c,.string d,.string nm,.string a]] w λe w'=>∃ b,e=.returned (.bool b)/\Za ρ nb mb w q R last ⟨5,id,pa,bf,c,d,nm,a⟩ b w':=by
 rcases QaG hok.ids id with ⟨k,g,l,i⟩|⟨v,i⟩
 ·have p:ZI R ⟨5,id,pa,bf,c,d,nm,a⟩=R[k]:=by unfold ZI;rw [i,Int.toNat_natCast,JT g]
  obtain ⟨G,H,E⟩:=h.node _ (Xa0 g);have y:ZD a=true:=by
   have n:a.toList=[]:=isEmpty_iff.1 s;have j:a.toList.length=a.size:=by rw [ByteArray.toList_eq,Array.length_toList];rfl
   rw [n] at j;unfold ZD;exact Xc4 (by rw [<- j];decide)
  have t:canP R last ⟨5,id,pa,bf,c,d,nm,a⟩=(QK nm&&!R[k].tag.toList.isEmpty&&Zu R[k].ats nm):=by have f:=QmL (x:=⟨5,id,pa,bf,c,d,nm,a⟩) E.rise;subst A B C;simp [canP,QbY,D,s,p,i,Qiv,y,f]
  have r:Qu R[k].id:=by rw [l];exact o
  cases f:Zu R[k].ats nm with
  | false =>refine (Qtp ρ nb mb _ w q R last h 5 id pa bf c d nm a k g r l f).mono ?_;rintro e w' ⟨rfl,m⟩;exact ⟨false,rfl,Za.no h (by rw [t,f,Bool.and_false]) m⟩
  | true =>obtain ⟨F,u⟩:=z.hit (Xa0 g) f;refine (Qqv ρ nb mb _ w q R last h 5 id pa bf c d nm a k g r l hok.ids f).mono ?_;rintro e w' ⟨rfl,ρ',n,j⟩;refine ⟨true,rfl,Za.ok (by rw [t,f,F,u];rfl) ?_ (QdQ (by simp)) n j⟩;show R.set (Qk R id).toNat { ZI R ⟨5,id,pa,bf,c,d,nm,a⟩ with ats:=QI (ZI R ⟨5,id,pa,bf,c,d,nm,a⟩).ats nm }=_;rw [p,i,Int.toNat_natCast]
 refine (Qp4 ρ nb mb _ w q R last h 5 id pa bf c d nm a o v).mono ?_;rintro e w' ⟨rfl,m⟩;exact ⟨false,rfl,Za.no h (by unfold canP;simp [i]) m⟩
theorem Qq3 (id pa bf c:Int) (d nm a:ByteArray) (l:Qh.Ok ⟨4,id,pa,bf,c,d,nm,a⟩) (y:Qu id) (C:pa=0) (D:bf=0) (E:c=0) (F:d.toList.isEmpty=true) : Xl 89 #[Xp q,.agg #[Xi 4,Xi id,Xi pa,Xi bf,Xi c,.string d,.string nm,.string a]] w λe w'=>∃ b,e=.returned (.bool b)/\Za ρ nb mb w q R last ⟨4,id,pa,bf,c,d,nm,a⟩ b w':=by
 rcases QaG hok.ids id with ⟨k,m,o,s⟩|⟨B,s⟩
 ·have z:ZI R ⟨4,id,pa,bf,c,d,nm,a⟩=R[k]:=by unfold ZI;rw [s,Int.toNat_natCast,JT m]
  obtain ⟨I,J,G⟩:=h.node _ (Xa0 m);have r:canP R last ⟨4,id,pa,bf,c,d,nm,a⟩=(QK nm&&!R[k].tag.toList.isEmpty&&ZD a&&(Zu R[k].ats nm||decide (R[k].ats.length<5))):=by have n:=QmL (x:=⟨4,id,pa,bf,c,d,nm,a⟩) G.rise;subst C D E;simp [canP,Qbv,F,z,s,Qiv,n]
  have p:Qu R[k].id:=by rw [o];exact y
  have A:QN R ⟨4,id,pa,bf,c,d,nm,a⟩=R.set k { R[k] with ats:=QQ R[k].ats nm a }:=by show R.set (Qk R id).toNat { ZI R ⟨4,id,pa,bf,c,d,nm,a⟩ with ats:=QQ (ZI R ⟨4,id,pa,bf,c,d,nm,a⟩).ats nm a }=_;rw [z,s,Int.toNat_natCast]
  cases f:R[k].tag.toList.isEmpty with
  | true =>refine (Qrw ρ nb mb _ w q R last h 4 id pa bf c d nm a k m p o f).mono ?_;rintro e w' ⟨rfl,g⟩;exact ⟨false,rfl,Za.no h (by rw [r,f];simp) g⟩
  | false =>
   cases i:QK nm with
   | false =>refine (QvR ρ nb mb _ w q R last h 4 id pa bf c d nm a k m p o f l.name i).mono ?_;rintro e w' ⟨rfl,g⟩;exact ⟨false,rfl,Za.no h (by rw [r,i];simp) g⟩
   | true =>
    have K:=Qd0 i;cases j:ZD a with
    | false =>refine (Qtw ρ nb mb _ w q R last h 4 id pa bf c d nm a k m p o f l.name i l.text j).mono ?_;rintro e w' ⟨rfl,g⟩;exact ⟨false,rfl,Za.no h (by rw [r,j];simp) g⟩
    | true =>
     have H:a.size<=20:=by unfold ZD at j;simpa using j
     cases n:Zu R[k].ats nm with
     | true =>refine (QsE ρ nb mb _ w q R last h 4 id pa bf c d nm a k m p o hok.ids f l.name i l.text j (by omega) n).mono ?_;rintro e w' ⟨rfl,ρ',t,u⟩;exact ⟨true,rfl,Za.ok (by rw [r,f,i,j,n];rfl) A (QdQ (by simp)) t u⟩
     | false =>
      by_cases v:R[k].ats.length<5
      ·refine (Qu7 ρ nb mb _ w q R last h 4 id pa bf c d nm a k m p o hok.ids f l.name i l.text j (by omega) (by omega) n v).mono ?_;rintro e w' ⟨rfl,ρ',t,u⟩;exact ⟨true,rfl,Za.ok (by rw [r,f,i,j,n];simp [v]) A (QdQ (by simp)) t u⟩
      refine (Qw5 ρ nb mb _ w q R last h 4 id pa bf c d nm a k m p o f l.name i l.text j n (by omega)).mono ?_;rintro e w' ⟨rfl,g⟩;exact ⟨false,rfl,Za.no h (by rw [r,n];simp [v]) g⟩
 refine (QtN ρ nb mb _ w q R last h 4 id pa bf c d nm a y B).mono ?_;rintro e w' ⟨rfl,g⟩;exact ⟨false,rfl,Za.no h (by unfold canP;simp [s]) g⟩
theorem QqI (id pa bf c:Int) (d nm f:ByteArray) (S:Qu id) (I:Qu pa) (T:Qu bf) (a5:c=0) (a6:d.toList.isEmpty=true) (M:nm.toList.isEmpty=true) (a7:f.toList.isEmpty=true) : Xl 87 #[Xp q,.agg #[Xi 2,Xi id,Xi pa,Xi bf,Xi c,.string d,.string nm,.string f]] w λe w'=>∃ b,e=.returned (.bool b)/\Za ρ nb mb w q R last ⟨2,id,pa,bf,c,d,nm,f⟩ b w':=by
 classical
 obtain ⟨rk,x⟩:=hok.up;obtain ⟨a8,a2,o,_⟩:=hok.root;obtain ⟨r,p,rfl⟩:=Xa3 a2;have z:∀ n,n ∈ R->n.id≠0:=λn M=>by have:=hok.ids.pos n M;omega
 have B:canP R last ⟨2,id,pa,bf,c,d,nm,f⟩=(decide (0<=Qk R id)&&(!(id==1)&&decide (0<=Qk R pa)&&!(JZ R (Qk R pa).toNat).tag.toList.isEmpty&&(!(bf !=0)||(decide (0<=Qk R bf)&&!((JZ R (Qk R bf).toNat).par !=pa)&&!(bf==id)))&&!decide (Qbi R pa id))):=by subst a5;unfold canP insB;simp [a6,M,a7]
 rcases QaG hok.ids id with ⟨k,j,g,C⟩|⟨a3,C⟩
 ·have s:Qu R[k].id:=by rw [g];exact S
  by_cases N:id=1
  ·subst N;refine (Quu ρ nb mb w q R last h 2 pa bf c d nm f r p o I _ rfl).mono ?_;rintro e w' ⟨rfl,a⟩;exact ⟨false,rfl,Za.no h (by rw [B];simp) a⟩
  have u:R[k].id≠1:=by rw [g];exact N
  rcases QaG hok.ids pa with ⟨t,l,i,G⟩|⟨Y,G⟩
  ·have y:Qu R[t].id:=by rw [i];exact I
   have U:(JZ R (Qk R pa).toNat)=R[t]:=by rw [G,Int.toNat_natCast,JT l]
   cases m:R[t].tag.toList.isEmpty with
   | true =>refine (Qv0 ρ nb mb w q R last h 2 id pa bf c d nm f k j s g r p o u t l y i m).mono ?_;rintro e w' ⟨rfl,a⟩;exact ⟨false,rfl,Za.no h (by rw [B,U,m];simp) a⟩
   | false =>
    cases v:Zs R (rk R[t].id+1) R[t].id R[k].id with
    | true =>
     have K:Qbi R pa id:=by have:=(Qg0 x hok.ids (z _ (Xa0 j)) ⟨R[t],Xa0 l,rfl⟩).1 v;rwa [i,g] at this
     refine (QoF ρ nb mb w q R last h 2 id pa bf c d nm f hok.ids rk x k j s g r p o u t l y i m v).mono ?_;rintro e w' ⟨rfl,a⟩;exact ⟨false,rfl,Za.no h (by rw [B,decide_eq_true K];simp) a⟩
    | false =>
     have K:¬ Qbi R pa id:=by have:=(Qgv x hok.ids (z _ (Xa0 j)) ⟨R[t],Xa0 l,rfl⟩).1 v;rwa [i,g] at this
     have D:canP R last ⟨2,id,pa,bf,c,d,nm,f⟩=(!(bf !=0)||(decide (0<=Qk R bf)&&!((JZ R (Qk R bf).toNat).par !=pa)&&!(bf==id))):=by rw [B,U,m,decide_eq_false K,C,G];simp [N]
     have V:R[t].id≠R[k].id:=λe=>K ⟨0,by rw [<- i,e,g];rfl⟩;have a4:ZI R ⟨2,id,pa,bf,c,d,nm,f⟩=R[k]:=by unfold ZI;rw [C,Int.toNat_natCast,JT j]
     have X:QN R ⟨2,id,pa,bf,c,d,nm,f⟩=QM R { R[k] with par:=R[t].id } k bf:=by show QM R { ZI R ⟨2,id,pa,bf,c,d,nm,f⟩ with par:=pa } (Qk R id).toNat bf=_;rw [a4,C,Int.toNat_natCast,i]
     by_cases E:bf=0
     ·subst E;refine (QqA ρ nb mb w q R last h 2 id pa c d nm f hok.ids rk x k j s g r p o u t l y i m v V z).mono ?_;rintro e w' ⟨rfl,ρ',O,L⟩;exact ⟨true,rfl,Za.ok (by rw [D];rfl) X (QdQ (by simp)) O L⟩
     rcases QaG hok.ids bf with ⟨b,a,A,H⟩|⟨a0,H⟩
     ·have P:Qu R[b].id:=by rw [A];exact T
      have W:(JZ R (Qk R bf).toNat)=R[b]:=by rw [H,Int.toNat_natCast,JT a]
      by_cases J:R[b].id=R[k].id
      ·have e:bf=id:=by rw [<- A,J,g]
       subst e;refine (Qvh ρ nb mb w q R last h 2 bf pa c d nm f hok.ids rk x k j s g r p o u t l y i m v (z _ (Xa0 j))).mono ?_;rintro e w' ⟨rfl,a⟩;exact ⟨false,rfl,Za.no h (by rw [D];simp [E]) a⟩
      have a1:bf≠id:=λe=>J (by rw [A,g,e]);by_cases F:R[b].par=R[t].id
      ·refine (Qu6 ρ nb mb w q R last h 2 id pa bf c d nm f hok.ids rk x k j s g r p o u t l y i m v V b a P A J (z _ (Xa0 a)) F).mono ?_;rintro e w' ⟨rfl,ρ',O,L⟩;rw [A] at L;exact ⟨true,rfl,Za.ok (by rw [D,W,H,F,i];simp [a1]) X (QdQ (by simp)) O L⟩
      refine (Qqu ρ nb mb w q R last h 2 id pa bf c d nm f hok.ids rk x k j s g r p o u t l y i m v b a P A J (z _ (Xa0 a)) F).mono ?_;rintro e w' ⟨rfl,a⟩;exact ⟨false,rfl,Za.no h (by rw [D,W];rw [i] at F;simp [E,F]) a⟩
     refine (Qwv ρ nb mb w q R last h 2 id pa bf c d nm f hok.ids rk x k j s g r p o u t l y i m v T E a0).mono ?_;rintro e w' ⟨rfl,a⟩;exact ⟨false,rfl,Za.no h (by rw [D,H];simp [E]) a⟩
  refine (Qqg ρ nb mb w q R last h 2 id pa bf c d nm f k j s g r p o u I Y).mono ?_;rintro e w' ⟨rfl,a⟩;exact ⟨false,rfl,Za.no h (by rw [B,G];simp) a⟩
 refine (Qty ρ nb mb w q R last h 2 id pa bf c d nm f S I a3 _ rfl).mono ?_;rintro e w' ⟨rfl,a⟩;exact ⟨false,rfl,Za.no h (by rw [B,C];simp) a⟩
end
structure Qh.Ints (x:Qh):Prop where
 id:Qu x.id
 par:Qu x.par
 bef:Qu x.bef
variable {x : Qh}
theorem Qoq (a:canP R last x=true):Jc x (QR x)=true:=by
 obtain ⟨b,id,pa,bf,j,k,nm,l⟩:=x;unfold canP at a;by_cases c:b=1
 ·subst c;rw [Qlp];simp [Jy] at a;simp [a]
 by_cases d:b=2
 ·subst d;rw [QjI];simp [insB] at a;simp [a]
 by_cases f:b=3
 ·subst f;rw [QnH];simp [Qcv] at a;simp [a]
 by_cases g:b=4
 ·subst g;rw [QmO];simp [Qbv] at a;simp [a]
 by_cases h:b=5
 ·subst h;rw [Ql2];simp [QbY] at a;simp [a]
 by_cases i:b=6
 ·subst i;rw [QkH];simp [Qcq] at a;simp [a]
 simp [c,d,f,g,h,i] at a
theorem QqN l (nb:Int->Nat) m w q R last (n:Ql l nb m (some (nb 1)) w q R last) (p:Qw R last) (C:Zw R) (A:last<=4611686018427387904) (x:Qh) (r:x.Ok) (o:x.Ints) : Xl 70 #[Xp q,x.val] w λe w'=>∃ b,e=.returned (.bool b)/\Za l nb m w q R last x b w':=by
 have B:Jc x (QR x)=false->canP R last x=false:=λe=>by cases D:canP R last x with| false=>rfl| true=>rw [Qoq D] at e;cases e
 obtain ⟨k,id,pa,bf,d,f,nm,g⟩:=x;cases h:Jc ⟨k,id,pa,bf,d,f,nm,g⟩ (QR ⟨k,id,pa,bf,d,f,nm,g⟩) with
 | false =>refine (Qs0 q k id pa bf d f nm g w h).mono ?_;rintro e w' ⟨rfl,c⟩;exact ⟨false,rfl,Za.no n (B h) c⟩
 | true =>
  by_cases s:k=1
  ·subst s;have a:=h;rw [Qlp] at a;simp only [Bool.and_eq_true,beq_iff_eq] at a;refine Qqn q id pa bf d f nm g w h _ λw1 c=>?_;refine (Qqp l nb m w1 q R last (n.below c) p A id pa bf d f nm g r a.1.1 a.1.2 a.2).mono ?_;rintro e w' ⟨b,i,j⟩;exact ⟨b,i,j.after c⟩
  by_cases t:k=2
  ·subst t;have a:=h;rw [QjI] at a;simp only [Bool.and_eq_true,beq_iff_eq] at a;refine Qn1 q id pa bf d f nm g w h _ λw1 c=>?_;refine (QqI l nb m w1 q R last (n.below c) p id pa bf d f nm g o.id o.par o.bef a.1.1.1 a.1.1.2 a.1.2 a.2).mono ?_;rintro e w' ⟨b,i,j⟩;exact ⟨b,i,j.after c⟩
  by_cases u:k=3
  ·subst u;have a:=h;rw [QnH] at a;simp only [Bool.and_eq_true,beq_iff_eq] at a;refine Qv5 q id pa bf d f nm g w h _ λw1 c=>?_;refine (QoX l nb m w1 q R last (n.below c) p A id pa bf d f nm g o.id a.1.1.1.1.1 a.1.1.1.1.2 a.1.1.1.2 a.1.1.2 a.1.2 a.2).mono ?_;rintro e w' ⟨b,i,j⟩;exact ⟨b,i,j.after c⟩
  by_cases v:k=4
  ·subst v;have a:=h;rw [QmO] at a;simp only [Bool.and_eq_true,beq_iff_eq] at a;refine QsP q id pa bf d f nm g w h _ λw1 c=>?_;refine (Qq3 l nb m w1 q R last (n.below c) p id pa bf d f nm g r o.id a.1.1.1 a.1.1.2 a.1.2 a.2).mono ?_;rintro e w' ⟨b,i,j⟩;exact ⟨b,i,j.after c⟩
  by_cases y:k=5
  ·subst y;have a:=h;rw [Ql2] at a;simp only [Bool.and_eq_true,beq_iff_eq] at a;refine Qsa q id pa bf d f nm g w h _ λw1 c=>?_;refine (QvK l nb m w1 q R last (n.below c) p C id pa bf d f nm g o.id a.1.1.1.1 a.1.1.1.2 a.1.1.2 a.1.2 a.2).mono ?_;rintro e w' ⟨b,i,j⟩;exact ⟨b,i,j.after c⟩
  by_cases z:k=6
  ·subst z;have a:=h;rw [QkH] at a;simp only [Bool.and_eq_true,beq_iff_eq] at a;refine QsF q id pa bf d f nm g w h _ λw1 c=>?_;refine (Qoe l nb m w1 q R last (n.below c) p id pa bf d f nm g r o.id a.1.1.1.1 a.1.1.1.2 a.1.1.2 a.1.2 a.2).mono ?_;rintro e w' ⟨b,i,j⟩;exact ⟨b,i,j.after c⟩
  refine (QtB q k id pa bf d f nm g w h s t u v y z).mono ?_;rintro e w' ⟨rfl,c⟩;exact ⟨false,rfl,Za.no n (by unfold canP;simp [s,t,u,v,y,z]) c⟩
theorem Zw.put (c:Zw R) {n:RN} (d:∀ a,a ∈ n.ats->QK a.1=true/\n.tag.toList.isEmpty=false):Zw (R.set k n):=λm b=>by
 rcases Xb2 b with b|rfl
 ·exact c m b
 exact d
theorem Zw.did (o:Qx R) (f:Zw R) (c:canP R last x=true):Zw (QN R x):=by
 by_cases p:(x.kind==1)=true
 ·unfold QN;rw [if_pos p];intro m d;rcases Xa4.1 d with d|d
  ·exact f m d
  rw [mem_singleton.1 d];intro a g;cases g
 unfold canP at c;rw [if_neg p] at c;simp only [Bool.and_eq_true,decide_eq_true_eq] at c;obtain ⟨⟨⟨A,_⟩,_⟩,c⟩:=c;obtain ⟨k,j,B,u⟩:∃ k,∃ j:k<R.length,R[k].id=x.id/\Qk R x.id=(k:Int):=by
  rcases QaG o x.id with t|⟨_,t⟩
  ·exact t
  omega
 have v:ZI R x=R[k]:=by unfold ZI;rw [u,Int.toNat_natCast,JT j]
 have h:=f _ (Xa0 j);unfold QN;rw [if_neg p,v,u,Int.toNat_natCast];by_cases l:(x.kind==2)=true
 ·rw [if_pos l];rw [if_pos l] at c;intro m d;have n:x.bef=0 \/ ∃ i,i<R.length/\Qg R i=x.bef:=by
   by_cases y:x.bef=0
   ·exact .inl y
   right;unfold insB at c;simp [y] at c;rcases QaG o x.bef with ⟨b,n,z,_⟩|⟨_,t⟩
   ·exact ⟨b,n,by rw [QV n,z]⟩
   omega
  rcases Qdn o j n m d with d|rfl
  ·exact f m d
  exact h
 rw [if_neg l];rw [if_neg l] at c;by_cases q:(x.kind==3)=true
 ·rw [if_pos q];intro m d;exact f m (QgJ d)
 rw [if_neg q];rw [if_neg q] at c;by_cases r:(x.kind==6)=true
 ·rw [if_pos r];exact f.put h
 rw [if_neg r];rw [if_neg r] at c;by_cases s:(x.kind==4)=true
 ·rw [if_pos s];rw [if_pos s,v] at c;unfold Qbv at c;simp only [Bool.and_eq_true,Bool.not_eq_true'] at c;refine f.put λa g=>?_;rcases Qgu g with g|rfl
  ·exact h a g
  exact ⟨c.2.1.1.1,c.2.1.1.2⟩
 rw [if_neg s];exact f.put λa g=>h a (QnG g)
theorem Qw.bare {R:List RN} {last:Int}:Qw (QA R) last↔Qw R last:=by
 constructor
 ·rintro ⟨b,⟨rk,c⟩,d,n,a,f,g⟩;obtain ⟨m,h,rfl⟩:=Qa5.1 a;exact ⟨QmN.1 b,⟨rk,Qkm.1 c⟩,λn a=>(d n.bare (Qa5.2 ⟨n,a,rfl⟩):n.id<=last),m,h,f,g⟩
 rintro ⟨b,⟨rk,c⟩,d,n,a,f,g⟩;refine ⟨QmN.2 b,⟨rk,Qkm.2 c⟩,λn a=>?_,n.bare,Qa5.2 ⟨n,a,rfl⟩,f,g⟩;obtain ⟨m,h,rfl⟩:=Qa5.1 a;exact d m h
theorem Qw.did (c:Qw R last) (a:canP R last x=true):Qw (QN R x) (Jz last x):=by
 classical
 have g:=c.ids;obtain ⟨rk,j⟩:=c.up;by_cases f:(x.kind==1)=true
 ·unfold QN Jz;rw [if_pos f,if_pos f];unfold canP at a;rw [if_pos f] at a;unfold Jy at a;simp only [Bool.and_eq_true,beq_iff_eq] at a;exact c.more (n:=Qer x) (show last<x.id by omega) rfl
 unfold canP at a;rw [if_neg f] at a;simp only [Bool.and_eq_true,decide_eq_true_eq] at a;obtain ⟨⟨⟨E,_⟩,_⟩,a⟩:=a;obtain ⟨k,d,i,m⟩:∃ k,∃ d:k<R.length,R[k].id=x.id/\Qk R x.id=(k:Int):=by
  rcases QaG g x.id with c|⟨_,c⟩
  ·exact c
  omega
 have u:ZI R x=R[k]:=by unfold ZI;rw [m,Int.toNat_natCast,JT d]
 unfold QN Jz;rw [if_neg f,if_neg f,u,m,Int.toNat_natCast];by_cases h:(x.kind==2)=true
 ·rw [if_pos h];rw [if_pos h] at a;unfold insB at a;simp only [Bool.and_eq_true,Bool.not_eq_true',decide_eq_true_eq,decide_eq_false_iff_not] at a;obtain ⟨⟨⟨⟨⟨_,v⟩,F⟩,_⟩,y⟩,B⟩:=a;obtain ⟨t,C,z,_⟩:∃ k,∃ d:k<R.length,R[k].id=x.par/\Qk R x.par=(k:Int):=by
   rcases QaG g x.par with c|⟨_,c⟩
   ·exact c
   omega
  have o:∃ n,n ∈ R/\n.id=x.par:=⟨R[t],Xa0 C,z⟩;have D:=g.pos _ (Xa0 d);refine c.ins j d (by rw [i];simpa using v) ?_ o ((Qgv j g (by omega) o).2 (by rw [i];exact B));by_cases p:x.bef=0
  ·exact .inl p
  right;simp [p] at y;rcases QaG g x.bef with ⟨b,q,A,_⟩|⟨_,c⟩
  ·exact ⟨b,q,by rw [QV q,A]⟩
  omega
 rw [if_neg h];rw [if_neg h] at a;by_cases l:(x.kind==3)=true
 ·rw [if_pos l];rw [if_pos l] at a;unfold Qcv at a;simp only [Bool.and_eq_true,Bool.not_eq_true'] at a;exact c.rem (Qae j d) d (by rw [i];simpa using a.2.2)
 rw [if_neg l];by_cases r:(x.kind==6)=true
 ·rw [if_pos r];exact c.put d rfl rfl
 rw [if_neg r];by_cases s:(x.kind==4)=true
 ·rw [if_pos s];exact c.put d rfl rfl
 rw [if_neg s];exact c.put d rfl rfl
def QC (R:List RN) (last:Int) (a:Nat->Qh):Nat->List RN × Int
 | 0=>(R,last)
 | k+1=>(QN (QC R last a k).1 (a k),Jz (QC R last a k).2 (a k))
def JK (R:List RN) (last:Int) (a:Nat->Qh) (k:Nat):Prop:=∀ j,j<k->canP (QC R last a j).1 (QC R last a j).2 (a j)=true
theorem JK.zero (R:List RN) (last:Int) (a:Nat->Qh):JK R last a 0:=λ_ b=>absurd b (Xb7 _)
theorem JK.succ (c:JK R last X k) (b:canP (QC R last X k).1 (QC R last X k).2 (X k)=true):JK R last X (k+1):=λj a=>by
 rcases Nat.lt_succ_iff_lt_or_eq.1 a with a|rfl
 ·exact c j a
 exact b
theorem QqC (a:canP R last x=true):Jz last x=last \/ Jz last x=last+1:=by
 unfold Jz;by_cases b:(x.kind==1)=true
 ·rw [if_pos b];unfold canP at a;rw [if_pos b] at a;unfold Jy at a;simp only [Bool.and_eq_true,beq_iff_eq] at a;right;omega
 rw [if_neg b];exact .inl rfl
theorem JK.ok (g:Qw R last) (d:Zw R):∀ {k:Nat},JK R last X k->Qw (QC R last X k).1 (QC R last X k).2/\Zw (QC R last X k).1/\(QC R last X k).2<=last+k:=by
 intro k;induction k with
 | zero=>intro _;exact ⟨g,d,by simp [QC]⟩
 | succ k ih =>intro b;obtain ⟨c,f,h⟩:=ih λj i=>b j (by omega);have a:=b k (by omega);refine ⟨c.did a,f.did c.ids a,?_⟩;show Jz _ _<=_;rcases QqC a with e|e<;>rw [e]<;>omega
theorem Qmt m (nb:Int->Nat) j w q R last (E:Ql m nb j (some (nb 1)) w q R last) (S:Qw R last) (a0:Zw R) ao (n c:Nat) d (aw:last+n<=4611686018427387904) (ax:n<=1099511627776) (a1:JV w ao n d) (K:∀ a,ao=some a->m a.block=none) (a2:∀ i,i<n->(d i).Ok/\(d i).Ints) : Xl 53 #[Xp q,.slice ao n c] w λe w'=>∃ k,k<=n/\JK R last d k/\(∃ f ρ',Zj m ρ' w w'/\Ql ρ' f j (some (f 1)) w' q (QC R last d k).1 (QC R last d k).2)/\((k=n/\e=.returned (.tuple #[Xi 0,Xi 0])) \/ (k<n/\canP (QC R last d k).1 (QC R last d k).2 (d k)=false/\e=.returned (.tuple #[Xi 4,Xi k]))):=by
 have aa:Hid (∀ b g,ao=some (Xa b g)->m b=none):=Qa λb g e=>K _ e;have ag:=Qa a1;have ab:=Qa a2;have ah:Hid (∀ k,JK R last d k->Qw (QC R last d k).1 (QC R last d k).2/\Zw (QC R last d k).1/\(QC R last d k).2<=last+k):=Qa λk I=>I.ok S a0;have ai:=Qa E;clear K a1 a2 S a0 E;go_enter Tryz.func53,Tryz.ntmps53;go_wp2;go_loopw [6,7,10] (λ_ _ i wr=>∃ k:Nat,k<=n/\i=Xi k/\Hid (JK R last d k)/\Hid (∃ f ρ',Zj m ρ' w wr/\Ql ρ' f j (some (f 1)) wr q (QC R last d k).1 (QC R last d k).2)) (λ_ _ i _=>n-(intOf i).toNat);·exact ⟨0,X3,rfl,Qa (JK.zero _ _ _),Qa ⟨nb,m,⟨Qi.of_below X4,λ_ _=>rfl,λ_ E=>.inl E⟩,Qb ai⟩⟩
 case round =>
  obtain ⟨k,a3,rfl,x,M⟩:=hrel;by_cases T:k<n
  ·obtain ⟨p,s,t,G⟩:=M.out;obtain ⟨b,g,U,F⟩:=ag.out (by omega);have ac:=F.lt;have N:=aa.out b g U;subst U;obtain ⟨O,V,aq⟩:=ah.out k x.out;obtain ⟨W,X⟩:=ab.out k T;have h:∀ r,r<8->wr.cell? (Xa b (g+(k*8+r)))=some (QY (d k) r):=λr I=>by rw [World.cell?_of_block (t.1.block b ac (by rw [N];simp)),F.cell _ (by omega),QcD _ _ _ I]
   have ar:(k:Int)<(n:Int):=by omega
   have au:=Qa G;have av:=Qa t;have y:Hid (∀ o,Xb wr o->Xl 70 #[Xp q,(d k).val] o λe w'=>e=.returned (.bool (canP (QC R last d k).1 (QC R last d k).2 (d k)))/\Za s p j wr q (QC R last d k).1 (QC R last d k).2 (d k) (canP (QC R last d k).1 (QC R last d k).2 (d k)) w'):=Qa λo Y=>by refine (QqN s p j o q _ _ (G.below Y) O V (by omega) (d k) W X).mono ?_;rintro e w' ⟨b,rfl,l⟩;have aj:=l.1;subst aj;exact ⟨rfl,l.after Y⟩
   have L:Hid (canP (QC R last d k).1 (QC R last d k).2 (d k)=true->∀ w',Za s p j wr q (QC R last d k).1 (QC R last d k).2 (d k) true w'->∃ f ρ',Zj m ρ' w w'/\Ql ρ' f j (some (f 1)) w' q (QC R last d (k+1)).1 (QC R last d (k+1)).2):=Qa λ_ w' l=>by obtain ⟨_,f,ρ',J,_,u⟩:=l;rw [if_pos rfl,if_pos rfl] at u;exact ⟨f,ρ',t.trans J,u⟩
   have a8:Hid (∀ w',Za s p j wr q (QC R last d k).1 (QC R last d k).2 (d k) false w'->∃ f ρ',Zj m ρ' w w'/\Ql ρ' f j (some (f 1)) w' q (QC R last d k).1 (QC R last d k).2):=Qa λw' l=>by obtain ⟨_,f,ρ',J,_,u⟩:=l;rw [if_neg (by simp),if_neg (by simp)] at u;exact ⟨f,ρ',t.trans J,u⟩
   have P:Hid (∀ v,canP (QC R last d k).1 (QC R last d k).2 (d k)=v->canP (QC R last d k).1 (QC R last d k).2 (d k)=v):=Qa λ_ e=>e;clear G t O V W X F N;generalize a4:canP (QC R last d k).1 (QC R last d k).2 (d k)=C at y L P;have a5:=Qa a4;clear a4 P;generalize ad:Za s p j wr q (QC R last d k).1 (QC R last d k).2 (d k)=ak at *;clear ad;obtain ⟨z,id,pa,bf,A,B,nm,D,H⟩:∃ z id pa bf A B nm D,d k=⟨z,id,pa,bf,A,B,nm,D⟩:=⟨_,_,_,_,_,_,_,_,rfl⟩;rw [H] at h;have a9:Hid (∀ o,Xb wr o->Xl 70 #[Xp q,.agg #[Xi z,Xi id,Xi pa,Xi bf,Xi A,.string B,.string nm,.string D]] o λe w'=>e=.returned (.bool C)/\ak C w'):=by rw [H] at y;exact y
   clear H y;have ay:wr.cell? (Xa b (g+k*8))=some (Xi z):=by have:=h 0 (by decide);simpa [QY,Nat.add_assoc] using this
   have az:wr.cell? (Xa b (g+k*8+1))=some (Xi id):=by have:=h 1 (by decide);simpa [QY,Nat.add_assoc] using this
   have aA:wr.cell? (Xa b (g+k*8+2))=some (Xi pa):=by have:=h 2 (by decide);simpa [QY,Nat.add_assoc] using this
   have aB:wr.cell? (Xa b (g+k*8+3))=some (Xi bf):=by have:=h 3 (by decide);simpa [QY,Nat.add_assoc] using this
   have aC:wr.cell? (Xa b (g+k*8+4))=some (Xi A):=by have:=h 4 (by decide);simpa [QY,Nat.add_assoc] using this
   have aD:wr.cell? (Xa b (g+k*8+5))=some (.string B):=by have:=h 5 (by decide);simpa [QY,Nat.add_assoc] using this
   have aE:wr.cell? (Xa b (g+k*8+6))=some (.string nm):=by have:=h 6 (by decide);simpa [QY,Nat.add_assoc] using this
   have aF:wr.cell? (Xa b (g+k*8+7))=some (.string D):=by have:=h 7 (by decide);simpa [QY,Nat.add_assoc] using this
   clear h;go_wp2_with fail;refine (a9.out _ Xd).mono ?_;rintro e a6 ⟨rfl,l⟩;have a7:=Qa l;clear l;cases C with
   | true =>
    have al:=Qa (L.out rfl a6 a7.out);have ae:=Qa (x.out.succ a5.out);go_wp2;go_roundw;·exact ⟨k+1,by omega,by go_num,ae,al⟩
    simp [intOf];omega
   | false =>have ap:=Qa (a8.out a6 a7.out);go_wp2;refine bodyPost_ret (results_tmp2 rfl _ _ _) rfl ?_;exact ⟨k,a3,x.out,ap.out,.inr ⟨T,a5.out,rfl⟩⟩
  have af:k=n:=by omega
  subst af;go_wp2;refine bodyPost_ret (results_tmp2 rfl _ _ _) rfl ?_;exact ⟨k,a3,x.out,M.out,.inl ⟨rfl,rfl⟩⟩
end Go.Proofs.YtobgcaemnpkbmaaGreat
