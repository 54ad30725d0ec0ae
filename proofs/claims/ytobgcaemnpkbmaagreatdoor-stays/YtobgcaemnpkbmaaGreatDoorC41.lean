import Derived.Test.YtobgcaemnpkbmaaGreatDoorC40
namespace Go.Proofs.YtobgcaemnpkbmaaGreatDoor
set_option maxRecDepth 100000
set_option maxHeartbeats 8000000
open Go.RowKit List
def acB (x a:Ac):Bool:=(x.kd==a.kd)&&((x.nm==a.nm)&&((x.pa==a.pa)&&((x.fl==a.fl)&&((x.n==a.n)&&(x.m==a.m)))))
theorem Qqu (x g:Ac):acB x g=(x==g):=by rw [Bool.eq_iff_iff];obtain ⟨a,b,c,d,e,f⟩:=x;obtain ⟨h,i,j,k,e',l⟩:=g;simp [acB]
theorem QpS (x a:Ac) (w:World):(Op.equalIn 10000 34 x.val a.val).run Tryz.prog w=.ok (acB x a) w:=by
 unfold Ac.val;rw [run_equalIn_agg w _ _ _ _ (by kernel_rfl) (by kernel_rfl)];have b:(Tryz.prog.fieldsOf 34).toList.map (λf=>(f.type,f.offset,f.name== "_"))=[(3,0,false),(3,1,false),(3,2,false),(3,3,false),(3,4,false),(3,5,false)]:=by kernel_rfl
 generalize (Tryz.prog.fieldsOf 34).toList=c at *;have d:=congrArg List.length b;rw [length_map] at d;rcases c with _|⟨o,_|⟨p,_|⟨q,_|⟨r,_|⟨s,_|⟨t,_|⟨u,c⟩⟩⟩⟩⟩⟩⟩;case cons.cons.cons.cons.cons.cons.nil =>simp only [map_cons,map_nil,List.cons.injEq,and_true] at b;obtain ⟨g,h,i,j,k,l⟩:=b;rw [QbM w g rfl rfl,QbM w h rfl rfl,QbM w i rfl rfl,QbM w j rfl rfl,QbM w k rfl rfl,QbM w l rfl rfl,Op.eqFields];unfold acB;cases (x.kd==a.kd)<;>cases (x.nm==a.nm)<;>cases (x.pa==a.pa)<;>cases (x.fl==a.fl)<;>cases (x.n==a.n)<;>cases (x.m==a.m)<;>rfl
 all_goals (simp at d)
theorem Qqf (x a:Ac) (w:World):(binOp .neq 34 x.val a.val).run Tryz.prog w=.ok (.bool (!acB x a)) w:=by have h:=QpS x a w;unfold Ac.val at h ⊢;rw [run_neq_struct,h];rfl
theorem Qjs (a:Ac) (w:World):Calls Tryz.prog 40 #[a.val] w λe w'=>e=.returned (.bool a.may)/\Below w.heap.size w w':=by
 have y:Hid (∀ w1,Calls Tryz.prog 69 #[a.val] w1 λe w'=>e=.returned a.need.val/\Below w1.heap.size w1 w'):=Qa (QqP a);have I:Hid (∀ w1,Calls Tryz.prog 71 #[a.val] w1 λe w'=>e=.returned (.bool a.rest)/\Below w1.heap.size w1 w'):=Qa (QnR a);have A:Hid (∀ w1,Calls Tryz.prog 70 #[.int .i64 a.nm,.int .i64 1,.int .i64 20] w1 λe w'=>e=.returned (.bool (decide (1<=a.nm)&&decide (a.nm<=20)))/\w'=w1):=Qa (QdO a.nm 1 20);have B:∀ w1,(binOp .neq 34 a.val a.need.val).run Tryz.prog w1=.ok (.bool (!acB a a.need)) w1:=Qqf a a.need;unfold Ac.may;rw [<- Qqu];generalize acB a a.need=s at *;generalize a.need=O at *;generalize a.rest=r at *;obtain ⟨i,nm,pa,g,n,m⟩:=a;obtain ⟨P,R,S,T,U,V⟩:=O;simp only [Ac.val] at y B I A ⊢;generalize (decide (1<=nm)&&decide (nm<=20))=u at *;cases s with
 | false =>
  rw [Bool.false_and];go_enter Tryz.func40,Tryz.ntmps40;go_wp2_with fail;generalize d:w.alloc (.cells #[.int .i64 i,.int .i64 nm,.int .i64 pa,.int .i64 g,.int .i64 n,.int .i64 m] 34)=f;have h:Below w.heap.size w f:=by rw [<- d];exact (Below.refl _ _).alloc (Nat.le_refl _) _
  have k:f.cell? ⟨w.heap.size,0,none⟩=some (.int .i64 i):=by rw [<- d];simp [go_sem]
  have l:f.cell? ⟨w.heap.size,1,none⟩=some (.int .i64 nm):=by rw [<- d];simp [go_sem]
  have o:f.cell? ⟨w.heap.size,2,none⟩=some (.int .i64 pa):=by rw [<- d];simp [go_sem]
  have q:f.cell? ⟨w.heap.size,3,none⟩=some (.int .i64 g):=by rw [<- d];simp [go_sem]
  have t:f.cell? ⟨w.heap.size,4,none⟩=some (.int .i64 n):=by rw [<- d];simp [go_sem]
  have v:f.cell? ⟨w.heap.size,5,none⟩=some (.int .i64 m):=by rw [<- d];simp [go_sem]
  have z:w.heap.size<f.heap.size:=by rw [<- d];simp
  have x:=Qa h;clear d h
  go_region_held3 (λw'=>w'.cell? ⟨w.heap.size,0,none⟩=some (.int .i64 i)/\w'.cell? ⟨w.heap.size,1,none⟩=some (.int .i64 nm)/\w'.cell? ⟨w.heap.size,2,none⟩=some (.int .i64 pa)/\w'.cell? ⟨w.heap.size,3,none⟩=some (.int .i64 g)/\w'.cell? ⟨w.heap.size,4,none⟩=some (.int .i64 n)/\w'.cell? ⟨w.heap.size,5,none⟩=some (.int .i64 m))
    (first
      | go_keep
      | (go_split_ands
         refine ⟨?_,?_,?_,?_,?_,?_⟩
         all_goals (rw [c.cell (by simp;omega)];assumption)))
    (first|(go_at_call 69;refine (y.out _).mono ?_;rintro e w1 ⟨rfl,c⟩))
  have j:Hid (Below w.heap.size w w1):=Qa (x.out.drew.trans ⟨c.os,c.tape,c.output,c.size,λb hb=>c.block b (by show b<f.heap.size;omega)⟩);go_wp2;go_ret;exact ⟨rfl,j.out⟩
 | true =>
  rw [Bool.true_and];by_cases J:i=8
  ·subst J;go_enter Tryz.func40,Tryz.ntmps40;go_wp2_with fail;generalize d:w.alloc (.cells #[.int .i64 8,.int .i64 nm,.int .i64 pa,.int .i64 g,.int .i64 n,.int .i64 m] 34)=f;have h:Below w.heap.size w f:=by rw [<- d];exact (Below.refl _ _).alloc (Nat.le_refl _) _
   have k:f.cell? ⟨w.heap.size,0,none⟩=some (.int .i64 8):=by rw [<- d];simp [go_sem]
   have l:f.cell? ⟨w.heap.size,1,none⟩=some (.int .i64 nm):=by rw [<- d];simp [go_sem]
   have o:f.cell? ⟨w.heap.size,2,none⟩=some (.int .i64 pa):=by rw [<- d];simp [go_sem]
   have q:f.cell? ⟨w.heap.size,3,none⟩=some (.int .i64 g):=by rw [<- d];simp [go_sem]
   have t:f.cell? ⟨w.heap.size,4,none⟩=some (.int .i64 n):=by rw [<- d];simp [go_sem]
   have v:f.cell? ⟨w.heap.size,5,none⟩=some (.int .i64 m):=by rw [<- d];simp [go_sem]
   have z:w.heap.size<f.heap.size:=by rw [<- d];simp
   have x:=Qa h;clear d h
   go_region_held3 (λw'=>w'.cell? ⟨w.heap.size,0,none⟩=some (.int .i64 8)/\w'.cell? ⟨w.heap.size,1,none⟩=some (.int .i64 nm)/\w'.cell? ⟨w.heap.size,2,none⟩=some (.int .i64 pa)/\w'.cell? ⟨w.heap.size,3,none⟩=some (.int .i64 g)/\w'.cell? ⟨w.heap.size,4,none⟩=some (.int .i64 n)/\w'.cell? ⟨w.heap.size,5,none⟩=some (.int .i64 m))
     (first
       | go_keep
       | (go_split_ands
          refine ⟨?_,?_,?_,?_,?_,?_⟩
          all_goals (rw [c.cell (by simp;omega)];assumption)))
     (first|(go_at_call 69;refine (y.out _).mono ?_;rintro e w1 ⟨rfl,c⟩))
   have j:Hid (Below w.heap.size w w1):=Qa (x.out.drew.trans ⟨c.os,c.tape,c.output,c.size,λb hb=>c.block b (by show b<f.heap.size;omega)⟩);have C:=(c.cell (p:=⟨w.heap.size,0,none⟩) (by simp;omega)).trans k;have D:=(c.cell (p:=⟨w.heap.size,1,none⟩) (by simp;omega)).trans l;have E:=(c.cell (p:=⟨w.heap.size,2,none⟩) (by simp;omega)).trans o;have F:=(c.cell (p:=⟨w.heap.size,3,none⟩) (by simp;omega)).trans q;have G:=(c.cell (p:=⟨w.heap.size,4,none⟩) (by simp;omega)).trans t;have H:=(c.cell (p:=⟨w.heap.size,5,none⟩) (by simp;omega)).trans v;go_wp2;go_ret;exact ⟨by simp,j.out⟩
  by_cases K:i=9
  ·subst K;go_enter Tryz.func40,Tryz.ntmps40;go_wp2_with fail;generalize d:w.alloc (.cells #[.int .i64 9,.int .i64 nm,.int .i64 pa,.int .i64 g,.int .i64 n,.int .i64 m] 34)=f;have h:Below w.heap.size w f:=by rw [<- d];exact (Below.refl _ _).alloc (Nat.le_refl _) _
   have k:f.cell? ⟨w.heap.size,0,none⟩=some (.int .i64 9):=by rw [<- d];simp [go_sem]
   have l:f.cell? ⟨w.heap.size,1,none⟩=some (.int .i64 nm):=by rw [<- d];simp [go_sem]
   have o:f.cell? ⟨w.heap.size,2,none⟩=some (.int .i64 pa):=by rw [<- d];simp [go_sem]
   have q:f.cell? ⟨w.heap.size,3,none⟩=some (.int .i64 g):=by rw [<- d];simp [go_sem]
   have t:f.cell? ⟨w.heap.size,4,none⟩=some (.int .i64 n):=by rw [<- d];simp [go_sem]
   have v:f.cell? ⟨w.heap.size,5,none⟩=some (.int .i64 m):=by rw [<- d];simp [go_sem]
   have z:w.heap.size<f.heap.size:=by rw [<- d];simp
   have x:=Qa h;clear d h
   go_region_held3 (λw'=>w'.cell? ⟨w.heap.size,0,none⟩=some (.int .i64 9)/\w'.cell? ⟨w.heap.size,1,none⟩=some (.int .i64 nm)/\w'.cell? ⟨w.heap.size,2,none⟩=some (.int .i64 pa)/\w'.cell? ⟨w.heap.size,3,none⟩=some (.int .i64 g)/\w'.cell? ⟨w.heap.size,4,none⟩=some (.int .i64 n)/\w'.cell? ⟨w.heap.size,5,none⟩=some (.int .i64 m))
     (first
       | go_keep
       | (go_split_ands
          refine ⟨?_,?_,?_,?_,?_,?_⟩
          all_goals (rw [c.cell (by simp;omega)];assumption)))
     (first|(go_at_call 69;refine (y.out _).mono ?_;rintro e w1 ⟨rfl,c⟩))
   have j:Hid (Below w.heap.size w w1):=Qa (x.out.drew.trans ⟨c.os,c.tape,c.output,c.size,λb hb=>c.block b (by show b<f.heap.size;omega)⟩);have C:=(c.cell (p:=⟨w.heap.size,0,none⟩) (by simp;omega)).trans k;have D:=(c.cell (p:=⟨w.heap.size,1,none⟩) (by simp;omega)).trans l;have E:=(c.cell (p:=⟨w.heap.size,2,none⟩) (by simp;omega)).trans o;have F:=(c.cell (p:=⟨w.heap.size,3,none⟩) (by simp;omega)).trans q;have G:=(c.cell (p:=⟨w.heap.size,4,none⟩) (by simp;omega)).trans t;have H:=(c.cell (p:=⟨w.heap.size,5,none⟩) (by simp;omega)).trans v;go_wp2;go_ret;exact ⟨by simp,j.out⟩
  have L:(i==8)=false:=by simp [J]
  have M:(i==9)=false:=by simp [K]
  rw [L,M,Bool.false_or,Bool.false_or];cases u with
  | false =>
   rw [Bool.false_and];go_enter Tryz.func40,Tryz.ntmps40;go_wp2_with fail;generalize d:w.alloc (.cells #[.int .i64 i,.int .i64 nm,.int .i64 pa,.int .i64 g,.int .i64 n,.int .i64 m] 34)=f;have h:Below w.heap.size w f:=by rw [<- d];exact (Below.refl _ _).alloc (Nat.le_refl _) _
   have k:f.cell? ⟨w.heap.size,0,none⟩=some (.int .i64 i):=by rw [<- d];simp [go_sem]
   have l:f.cell? ⟨w.heap.size,1,none⟩=some (.int .i64 nm):=by rw [<- d];simp [go_sem]
   have o:f.cell? ⟨w.heap.size,2,none⟩=some (.int .i64 pa):=by rw [<- d];simp [go_sem]
   have q:f.cell? ⟨w.heap.size,3,none⟩=some (.int .i64 g):=by rw [<- d];simp [go_sem]
   have t:f.cell? ⟨w.heap.size,4,none⟩=some (.int .i64 n):=by rw [<- d];simp [go_sem]
   have v:f.cell? ⟨w.heap.size,5,none⟩=some (.int .i64 m):=by rw [<- d];simp [go_sem]
   have z:w.heap.size<f.heap.size:=by rw [<- d];simp
   have x:=Qa h;clear d h
   go_region_held3 (λw'=>w'.cell? ⟨w.heap.size,0,none⟩=some (.int .i64 i)/\w'.cell? ⟨w.heap.size,1,none⟩=some (.int .i64 nm)/\w'.cell? ⟨w.heap.size,2,none⟩=some (.int .i64 pa)/\w'.cell? ⟨w.heap.size,3,none⟩=some (.int .i64 g)/\w'.cell? ⟨w.heap.size,4,none⟩=some (.int .i64 n)/\w'.cell? ⟨w.heap.size,5,none⟩=some (.int .i64 m))
     (first
       | go_keep
       | (go_split_ands
          refine ⟨?_,?_,?_,?_,?_,?_⟩
          all_goals (rw [c.cell (by simp;omega)];assumption)))
     (first|(go_at_call 69;refine (y.out _).mono ?_;rintro e w1 ⟨rfl,c⟩))
   have j:Hid (Below w.heap.size w w1):=Qa (x.out.drew.trans ⟨c.os,c.tape,c.output,c.size,λb hb=>c.block b (by show b<f.heap.size;omega)⟩);have C:=(c.cell (p:=⟨w.heap.size,0,none⟩) (by simp;omega)).trans k;have D:=(c.cell (p:=⟨w.heap.size,1,none⟩) (by simp;omega)).trans l;have E:=(c.cell (p:=⟨w.heap.size,2,none⟩) (by simp;omega)).trans o;have F:=(c.cell (p:=⟨w.heap.size,3,none⟩) (by simp;omega)).trans q;have G:=(c.cell (p:=⟨w.heap.size,4,none⟩) (by simp;omega)).trans t;have H:=(c.cell (p:=⟨w.heap.size,5,none⟩) (by simp;omega)).trans v;clear B k l o q t v;go_wp2_with (first|(go_at_call 70;refine (A.out _).mono ?_;rintro e w2 ⟨rfl,rfl⟩));go_ret;exact ⟨rfl,j.out⟩
  | true =>
   rw [Bool.true_and];go_enter Tryz.func40,Tryz.ntmps40;go_wp2_with fail;generalize d:w.alloc (.cells #[.int .i64 i,.int .i64 nm,.int .i64 pa,.int .i64 g,.int .i64 n,.int .i64 m] 34)=f;have h:Below w.heap.size w f:=by rw [<- d];exact (Below.refl _ _).alloc (Nat.le_refl _) _
   have k:f.cell? ⟨w.heap.size,0,none⟩=some (.int .i64 i):=by rw [<- d];simp [go_sem]
   have l:f.cell? ⟨w.heap.size,1,none⟩=some (.int .i64 nm):=by rw [<- d];simp [go_sem]
   have o:f.cell? ⟨w.heap.size,2,none⟩=some (.int .i64 pa):=by rw [<- d];simp [go_sem]
   have q:f.cell? ⟨w.heap.size,3,none⟩=some (.int .i64 g):=by rw [<- d];simp [go_sem]
   have t:f.cell? ⟨w.heap.size,4,none⟩=some (.int .i64 n):=by rw [<- d];simp [go_sem]
   have v:f.cell? ⟨w.heap.size,5,none⟩=some (.int .i64 m):=by rw [<- d];simp [go_sem]
   have z:w.heap.size<f.heap.size:=by rw [<- d];simp
   have x:=Qa h;clear d h
   go_region_held3 (λw'=>w'.cell? ⟨w.heap.size,0,none⟩=some (.int .i64 i)/\w'.cell? ⟨w.heap.size,1,none⟩=some (.int .i64 nm)/\w'.cell? ⟨w.heap.size,2,none⟩=some (.int .i64 pa)/\w'.cell? ⟨w.heap.size,3,none⟩=some (.int .i64 g)/\w'.cell? ⟨w.heap.size,4,none⟩=some (.int .i64 n)/\w'.cell? ⟨w.heap.size,5,none⟩=some (.int .i64 m))
     (first
       | go_keep
       | (go_split_ands
          refine ⟨?_,?_,?_,?_,?_,?_⟩
          all_goals (rw [c.cell (by simp;omega)];assumption)))
     (first|(go_at_call 69;refine (y.out _).mono ?_;rintro e w1 ⟨rfl,c⟩))
   have j:Hid (Below w.heap.size w w1):=Qa (x.out.drew.trans ⟨c.os,c.tape,c.output,c.size,λb hb=>c.block b (by show b<f.heap.size;omega)⟩);have C:=(c.cell (p:=⟨w.heap.size,0,none⟩) (by simp;omega)).trans k;have D:=(c.cell (p:=⟨w.heap.size,1,none⟩) (by simp;omega)).trans l;have E:=(c.cell (p:=⟨w.heap.size,2,none⟩) (by simp;omega)).trans o;have F:=(c.cell (p:=⟨w.heap.size,3,none⟩) (by simp;omega)).trans q;have G:=(c.cell (p:=⟨w.heap.size,4,none⟩) (by simp;omega)).trans t;have H:=(c.cell (p:=⟨w.heap.size,5,none⟩) (by simp;omega)).trans v;clear B k l o q t v;go_wp2_with (first|(go_at_call 70;refine (A.out _).mono ?_;rintro e w2 ⟨rfl,rfl⟩)|(go_at_call 71;refine (I.out _).mono ?_;rintro e W ⟨rfl,N⟩));go_ret;exact ⟨rfl,j.out.trans (N.mono j.out.size)⟩
theorem Ac.val_cells (a:Ac):a.val=.agg #[.int .i64 a.kd,.int .i64 a.nm,.int .i64 a.pa,.int .i64 a.fl,.int .i64 a.n,.int .i64 a.m]:=rfl
def Qbw (q:List Ac):Bool:=q.all Ac.may
theorem Qs5 (g:Nat) (ao:Option Addr) (c:Nat) (A:List (List Ac)) (w:World) (b:JI g w ao A) (d:Qaf A=true) : Calls Tryz.prog 23 #[.slice ao A.length c] w λe w'=>e=.returned (.tuple #[.pointer none,.int .i64 1,.int .i64 0])/\Below w.heap.size w w':=by have f:=Qa (Qg8 g ao c A w b);rw [d] at f;clear b d;generalize A.length=n at *;go_enter Tryz.func23,Tryz.ntmps23;go_wp2_with (first|(go_at_call 39;refine f.out.mono ?_;rintro e w1 ⟨rfl,a⟩;rw [a];clear a));go_returns;exact ⟨rfl,Below.refl _ _⟩
theorem QmU (K:Nat) (ao:Option Addr) (n c:Nat) (A:List (List Ac)) (w:World) (G:n=A.length) (H:K<=w.heap.size) (I:JI K w ao A) (Y:Qaf A=false) (aq:n<=4) (R:∀ (j:Nat) (q:List Ac),A[j]?=some q->q.length<=12) (k m:Nat) (ar:k<n) (M:∀ j q,j<k->A[j]?=some q->Qbw q=true) (C:List Ac) (S:A[k]?=some C) (T:m<C.length) (L:∀ j a,j<m->C[j]?=some a->a.may=true) (N:∀ a,C[m]?=some a->a.may=false) : Calls Tryz.prog 23 #[.slice ao n c] w λe w'=>e=.returned (.tuple #[.pointer none,.int .i64 5,.int .i64 (k+1)])/\Below w.heap.size w w':=by
 have a0:Hid (Calls Tryz.prog 39 #[.slice ao n c] w λe w'=>e=.returned (.bool false)/\w'=w):=Qa (by rw [G,<- Y];exact Qg8 K ao c A w I);have ad:=Qa G;have ae:=Qa I;have a1:=Qa M;have o:=Qa S;have U:=Qa L;have V:=Qa N;have a4:=Qa R;have a5:=Qa T;clear G I Y M S L N R T;go_enter Tryz.func23,Tryz.ntmps23;go_wp2_with (first|(go_at_call 39;refine a0.out.mono ?_;rintro e w1 ⟨rfl,W⟩;rw [W];clear W));clear a0;go_loopw [16] (λi wr=>Hid (Below w.heap.size w wr)/\∃ j:Nat,j<=k/\i=.int .i64 j) (λi _=>n+1-(intOf i).toNat);·exact ⟨Qa (Below.refl _ _),0,Nat.zero_le _,rfl⟩
 case round =>
  obtain ⟨J,j,au,rfl⟩:=hrel;have a6:j<n:=by omega
  have a7:j<A.length:=by rw [<- ad.out];exact a6
  obtain ⟨q,D⟩:∃ q,A[j]?=some q:=⟨_,getElem?_eq_getElem a7⟩;obtain ⟨g,p,av,aw,af,_,ag,_,O⟩:=(ae.out.keep λb hb=>J.out.block b (Nat.lt_of_lt_of_le hb H)) j q D;have a2:=a4.out j q D;have y:=Qa O;have l:=Qa D;obtain ⟨r,E⟩:∃ r,r=q.length:=⟨_,rfl⟩;rw [<- E] at ag a2;have X:=Qa E;subst af;clear O D E;have ak:IntKind.i64.wrap ((j:Int)+1)=(j:Int)+1:=by rw [IntKind.wrap_i64];omega
  go_wp2;go_loopw [23] (λah a8=>Hid (Below w.heap.size w a8)/\∃ d:Nat,d<=r/\(j=k->d<=m)/\ah=.int .i64 d) (λi _=>r+1-(intOf i).toNat);·exact ⟨J,0,Nat.zero_le _,λ_=>Nat.zero_le _,rfl⟩
  case round =>
   obtain ⟨z,d,al,u,rfl⟩:=hrel;by_cases a9:d<r
   ·have aa:d<q.length:=by rw [<- X.out];exact a9
    obtain ⟨a,s⟩:∃ a,q[d]?=some a:=⟨_,getElem?_eq_getElem aa⟩;obtain ⟨ax,ay,ab,aj,f⟩:=(y.out.keep λb hb=>(z.out.block b (Nat.lt_of_lt_of_le hb H)).trans (J.out.block b (Nat.lt_of_lt_of_le hb H)).symm) d a s;have ai:=f 0 _ rfl;have az:=f 1 _ rfl;have aA:=f 2 _ rfl;have aB:=f 3 _ rfl;have aC:=f 4 _ rfl;have aD:=f 5 _ rfl;simp only [Nat.add_zero] at ai;subst ab;have v:=Qa (Qjs a (wr.alloc (.cells #[.int .i64 a.kd,.int .i64 a.nm,.int .i64 a.pa,.int .i64 a.fl,.int .i64 a.n,.int .i64 a.m] 34)));rw [Ac.val_cells] at v;have h:(wr.alloc (.cells #[.int .i64 a.kd,.int .i64 a.nm,.int .i64 a.pa,.int .i64 a.fl,.int .i64 a.n,.int .i64 a.m] 34)).heap[wr.heap.size]?=some (.cells #[.int .i64 a.kd,.int .i64 a.nm,.int .i64 a.pa,.int .i64 a.fl,.int .i64 a.n,.int .i64 a.m] 34 (0,0)):=heap_alloc_new wr _;have aE:=Qf h 0 _ rfl;have aF:=Qf h 1 _ rfl;have aG:=Qf h 2 _ rfl;have aH:=Qf h 3 _ rfl;have aI:=Qf h 4 _ rfl;have aJ:=Qf h 5 _ rfl;have B:Hid (Below w.heap.size w (wr.alloc (.cells #[.int .i64 a.kd,.int .i64 a.nm,.int .i64 a.pa,.int .i64 a.fl,.int .i64 a.n,.int .i64 a.m] 34))):=Qa (z.out.alloc z.out.size _);clear h f;by_cases P:j=k/\d=m
    ·obtain ⟨rfl,rfl⟩:=P;have t:a.may=false:=by have e:=o.out;rw [l.out] at e;cases e;exact V.out a s
     rw [t] at v;clear t s a1 o U V l y;go_wp2_with (first|(go_at_call 40;refine v.out.mono ?_;rintro e w2 ⟨rfl,F⟩));refine bodyPost_ret (results_tmp3 rfl _ _ _) rfl ?_;exact ⟨rfl,B.out.trans (F.mono B.out.size)⟩
    have t:a.may=true:=by
     rcases Nat.lt_or_ge j k with e|e
     ·have:=a1.out j q e l.out;unfold Qbw at this;exact all_eq_true.1 this a (mem_of_getElem? s)
     have x:j=k:=by omega
     have e:=o.out;rw [<- x,l.out] at e;cases e;have:=u x;exact U.out d a (by omega) s
    rw [t] at v;have a3:j=k->d+1<=m:=λe=>by have:=u e;omega
    clear t s P u y o l;go_wp2_with (first|(go_at_call 40;refine v.out.mono ?_;rintro e w2 ⟨rfl,F⟩));go_roundw;·exact ⟨Qa (B.out.trans (F.mono B.out.size)),d+1,by omega,a3,by go_num⟩
    simp [intOf];omega
   have ac:d=r:=by omega
   have ap:j<k:=by
    rcases Nat.lt_or_ge j k with e|e
    ·exact e
    have x:j=k:=by omega
    have e:=o.out;rw [<- x,l.out] at e;cases e;have:=u x;have:=a5.out;have:=X.out;omega
   subst ac;clear u y o l;go_wp2;go_roundw;·exact ⟨z,j+1,by omega,by go_num⟩
   simp [intOf];omega
theorem QkZ {w w':World} {a:Value} (h:Zl w w' (.slice none 0 0) a):Below w.heap.size w w' := ⟨h.by.os,h.by.tape,h.by.output,h.by.size,λb hb=>h.by.block b hb (by simp [Value.ownBlock])⟩
def acL (q:List Ac):List Value:=q.flatMap Ac.cells
theorem Qru (q:List Ac):(acL q).length=q.length*6:=by unfold acL;induction q with| nil=>rfl| cons x l ih=>rw [flatMap_cons,length_append,ih];simp [Ac.cells];omega
theorem Qpw (q:List Ac):∀ u ∈ acL q,u.oneCell'=true:=by intro u a;unfold acL at a;obtain ⟨x,_,b⟩:=mem_flatMap.1 a;simp [Ac.cells] at b;rcases b with rfl|rfl|rfl|rfl|rfl|rfl<;>rfl
theorem QmL:∀ (q:List Ac) (j:Nat) (u:Value),(acL q)[j]?=some u->∃ i r a,j=i*6+r/\q[i]?=some a/\a.cells[r]?=some u
 | [],j,u,h=>by simp [acL] at h
 | a::q,j,u,h=>by
  have e:acL (a::q)=a.cells++acL q:=rfl;rw [e] at h;have c:a.cells.length=6:=rfl;rcases Nat.lt_or_ge j 6 with d|d
  ·rw [getElem?_append_left (by omega)] at h;exact ⟨0,j,a,by omega,rfl,h⟩
  rw [getElem?_append_right (by omega),c] at h;obtain ⟨i,r,b,k,f,g⟩:=QmL q (j-6) u h;exact ⟨i+1,r,b,by omega,by simpa using f,g⟩
theorem QcP.news {s:Nat} {w:World} {d:Option Addr} {q:List Ac} (h:QcP s w d q):∀ a,d=some a->∀ j u,(acL q)[j]?=some u->w.cell? (a.add j)=some u:=by intro a f j u k;obtain ⟨i,r,b,l,m,n⟩:=QmL q j u k;obtain ⟨g,p,c,_,o⟩:=h i b m;rw [f] at c;cases c;rw [QdW,l,show p+(i*6+r)=p+i*6+r by omega];exact o r u n
theorem Qm6:(Tryz.prog.info? 34).map (λi=>(i.zero,i.size,i.bytes))=some (some (.agg #[.int .i64 0,.int .i64 0,.int .i64 0,.int .i64 0,.int .i64 0,.int .i64 0]),6,48):=by kernel_rfl
theorem Qne:(Tryz.prog.info? 113).map (λi=>(i.zero,i.size,i.bytes))=some (some (.agg #[.slice none 0 0,.pointer none,.int .i64 0]),3,40):=by kernel_rfl
def QjN (u:Nat) (q:List Ac) (d:Value) (n:Nat) (xs:List Value) (wr f:World):Prop :=
 ∃ a w1 b c,w1.ownsRow wr.heap.size 34 6 a q.length (acL q)/\Zl wr w1 (.slice none 0 0) a/\c.ownsRow 0 113 3 b (n+1) (xs++[a,.pointer none,.int .i64 0])/\Zl (w1.alloc (.cells #[a,.pointer none,.int .i64 0] 113)) c d b/\f=c.setCell ⟨u,0,none⟩ b
def Qu7 (f u:Nat) (q:List Ac) (m:Nat) (w wr:World) (R:World->Prop):Prop :=
 ∃ a c xs,wr.cell? ⟨u,0,none⟩=some (.slice a m c)/\wr.frozen? ⟨u,0,none⟩=false/\u<wr.heap.size/\wr.ownsRow 0 113 3 (.slice a m c) m xs/\(Value.slice a m c).ownBlock≠some u/\(∀ b,b<f->wr.heap[b]?=w.heap[b]?)/\∀ d,QjN u q (.slice a m c) m xs wr d->R d
theorem Qs6 (W:Nat) (ao:Option Addr) (n c:Nat) (A:List (List Ac)) (w:World) (a8:n=A.length) (a9:W<=w.heap.size) (aa:JI W w ao A) (ab:Qaf A=false) (bJ:n<=4) (aC:∀ (j:Nat) (q:List Ac),A[j]?=some q->q.length<=12) (az:∀ (j:Nat) q,A[j]?=some q->Qbw q=true) (b6:Nat->World->Prop) (C:Nat->Nat->World->Prop) (aN:Hid (∀ wr,Below w.heap.size w wr->C wr.heap.size 0 (wr.alloc (.cells Tryz.zeroCells110 110)))) (ac:Hid (∀ u m wr q,C u m wr->A[m]?=some q->Qu7 W u q m w wr (C u (m+1)))) (aO:Hid (∀ u wr,C u n wr->wr.cell? ⟨u,154,none⟩=some (.slice none 0 0)/\∀ b7,Below wr.heap.size wr b7->Calls Tryz.prog 41 #[.pointer (some ⟨u,5,none⟩),.int .i64 0] b7 λe w2=>∃ ad ae af,e=.returned (.slice ad ae af) /\ Calls Tryz.prog 34 #[.slice ad ae af] w2 λe K=>∃ q:Nat,e=.returned (.tuple #[.pointer (some ⟨q,0,none⟩),.int .i64 0,.int .i64 0])/\(∃ v,K.cell? ⟨u,152,none⟩=some v)/\K.frozen? ⟨u,152,none⟩=false/\b6 u (K.setCell ⟨u,152,none⟩ (.pointer (some ⟨q,0,none⟩))))) : Calls Tryz.prog 23 #[.slice ao n c] w λe w'=>∃ u:Nat,e=.returned (.tuple #[.pointer (some ⟨u,0,none⟩),.int .i64 0,.int .i64 0])/\b6 u w':=by
 have aP:Hid (Calls Tryz.prog 39 #[.slice ao n c] w λe w'=>e=.returned (.bool false)/\w'=w):=Qa (by rw [a8,<- ab];exact Qg8 W ao c A w aa);have aQ:=Qa a8;have U:=Qa aa;have ag:=Qa az;have M:=Qa aC;clear a8 aa ab az aC;go_enter Tryz.func23,Tryz.ntmps23;go_wp2_with (first|(go_at_call 39;refine aP.out.mono ?_;rintro e w1 ⟨rfl,aD⟩;rw [aD];clear aD));clear aP;go_loopw [16] (λi wr=>Hid (Below w.heap.size w wr)/\∃ j:Nat,j<=n/\i=.int .i64 j) (λi _=>n+1-(intOf i).toNat);·exact ⟨Qa (Below.refl _ _),0,Nat.zero_le _,rfl⟩
 case round =>
  obtain ⟨V,j,bK,rfl⟩:=hrel;by_cases ba:j<n
  ·have bb:j<A.length:=by rw [<- aQ.out];exact ba
   obtain ⟨q,k⟩:∃ q,A[j]?=some q:=⟨_,getElem?_eq_getElem bb⟩;obtain ⟨g,p,aR,aS,ah,_,ai,_,D⟩:=(U.out.keep λb hb=>V.out.block b (Nat.lt_of_lt_of_le hb a9)) j q k;have Y:=M.out j q k;have F:=Qa D;have N:=Qa k;obtain ⟨f,s⟩:∃ f,f=q.length:=⟨_,rfl⟩;rw [<- s] at ai Y;have G:=Qa s;subst ah;clear D k s;go_wp2;go_loopw [23] (λbu bc=>Hid (Below w.heap.size w bc)/\∃ l:Nat,l<=f/\bu=.int .i64 l) (λi _=>f+1-(intOf i).toNat);·exact ⟨V,0,Nat.zero_le _,rfl⟩
   case round =>
    obtain ⟨O,l,bG,rfl⟩:=hrel;by_cases bd:l<f
    ·have bf:l<q.length:=by rw [<- G.out];exact bd
     obtain ⟨a,t⟩:∃ a,q[l]?=some a:=⟨_,getElem?_eq_getElem bf⟩;obtain ⟨bL,bM,bg,bF,o⟩:=(F.out.keep λb hb=>(O.out.block b (Nat.lt_of_lt_of_le hb a9)).trans (V.out.block b (Nat.lt_of_lt_of_le hb a9)).symm) l a t;have bv:=o 0 _ rfl;have bN:=o 1 _ rfl;have bO:=o 2 _ rfl;have bP:=o 3 _ rfl;have bQ:=o 4 _ rfl;have bR:=o 5 _ rfl;simp only [Nat.add_zero] at bv;subst bg;have a1:=Qa (Qjs a (wr.alloc (.cells #[.int .i64 a.kd,.int .i64 a.nm,.int .i64 a.pa,.int .i64 a.fl,.int .i64 a.n,.int .i64 a.m] 34)));rw [Ac.val_cells] at a1;have r:(wr.alloc (.cells #[.int .i64 a.kd,.int .i64 a.nm,.int .i64 a.pa,.int .i64 a.fl,.int .i64 a.n,.int .i64 a.m] 34)).heap[wr.heap.size]?=some (.cells #[.int .i64 a.kd,.int .i64 a.nm,.int .i64 a.pa,.int .i64 a.fl,.int .i64 a.n,.int .i64 a.m] 34 (0,0)):=heap_alloc_new wr _;have bS:=Qf r 0 _ rfl;have bT:=Qf r 1 _ rfl;have bU:=Qf r 2 _ rfl;have bV:=Qf r 3 _ rfl;have bW:=Qf r 4 _ rfl;have bX:=Qf r 5 _ rfl;have aE:Hid (Below w.heap.size w (wr.alloc (.cells #[.int .i64 a.kd,.int .i64 a.nm,.int .i64 a.pa,.int .i64 a.fl,.int .i64 a.n,.int .i64 a.m] 34))):=Qa (O.out.alloc O.out.size _);clear r o;have av:a.may=true:=by have:=ag.out j q N.out;unfold Qbw at this;exact all_eq_true.1 this a (mem_of_getElem? t)
     rw [av] at a1;clear av t F N;go_wp2_with (first|(go_at_call 40;refine a1.out.mono ?_;rintro e w2 ⟨rfl,H⟩));go_roundw;·exact ⟨Qa (aE.out.trans (H.mono aE.out.size)),l+1,by omega,by go_num⟩
     simp [intOf];omega
    have a2:l=f:=by omega
    subst a2;clear F N;go_wp2;go_roundw;·exact ⟨O,j+1,by omega,by go_num⟩
    simp [intOf];omega
  have a2:j=n:=by omega
  subst a2;go_wp2_with fail;have aF:=Qa (aN.out wr V.out);generalize wr.heap.size=d at *;generalize wr.alloc (.cells Tryz.zeroCells110 110)=bY at *;clear aN;obtain ⟨bw,bx,bh,bi,bj⟩:=info_parts Qm6;obtain ⟨bz,bA,bk,bl,bm⟩:=info_parts Qne;go_loopw [38] (λi wr=>∃ m:Nat,m<=j/\i=.int .i64 m/\Hid (C d m wr)) (λi _=>j+1-(intOf i).toNat);·exact ⟨0,Nat.zero_le _,rfl,aF⟩
  case round =>
   obtain ⟨m,ab,rfl,aT⟩:=hrel;by_cases bn:m<j
   ·have bo:m<A.length:=by rw [<- aQ.out];exact bn
    obtain ⟨q,k⟩:∃ q,A[m]?=some q:=⟨_,getElem?_eq_getElem bo⟩;obtain ⟨x,y,xs,aU,aV,aG,aA,aH,aw,aW⟩:=ac.out d m wr q aT.out k;obtain ⟨g,p,aR,aS,ah,bH,ai,aB,D⟩:=(U.out.keep aw) m q k;have Y:=M.out m q k;have F:=Qa D;have N:=Qa k;have b8:=Qa aA;have bp:=Qa aH;have aX:=Qa aW;have b9:=Qa aB;obtain ⟨f,s⟩:∃ f,f=q.length:=⟨_,rfl⟩;rw [<- s] at ai Y;have G:=Qa s;subst ah;clear D k s aA aH aw aW aB U ag M ac aF;go_wp2_with fail;have P:(λw':World=>w'.frozen? ⟨d,0,none⟩=false/\w'.cell? ⟨d,0,none⟩=some (.slice x m y)) wr.drew:=⟨aV,aU⟩;refine Zm (S:=(λw':World=>w'.frozen? ⟨d,0,none⟩=false/\w'.cell? ⟨d,0,none⟩=some (.slice x m y))) (by kernel_rfl) ?_;iterate 6
     apply Q0 ?_ P ?_;rotate_left
     ·(intro w' hSw;(try obtain ⟨bB,bC⟩:=hSw);simp only [getElem_toArray,getElem_cons_zero,getElem_cons_succ];go_simp;try (with_reducible rfl))
     simp only [getElem_toArray,getElem_cons_zero,getElem_cons_succ,Act.put,setIfInBounds_toArray,set_cons_zero,set_cons_succ]
    refine Qq 6 ?_;simp only [getElem_toArray,getElem_cons_zero,getElem_cons_succ];refine Qcs _ _ _ 32 (by rfl) wr.heap.size 34 bw _ 6 48 Tryz.underlying32 bx bh bi bj rfl (.slice none 0 0) 0 [] (by rfl) ⟨rfl,.inl ⟨rfl,rfl⟩⟩ aR f aS (acL q) (by rfl) (λe=>by rw [G.out];exact b9.out e) (by rw [G.out];exact Qru q) (λa t j v aj=>F.out.news a t j v aj) (Qpw q) (by omega) (by omega) (Nat.le_refl _) ?_;intro bZ h L a3;rw [Nat.zero_add,nil_append] at L;obtain ⟨z,B,rfl⟩:=Qz L;have a4:Zl wr h (.slice none 0 0) (.slice z f B):=by first|exact a3|exact a3.undrew
    have E:Below wr.heap.size wr h:=QkZ a4;have bD:=E.size;have ak:=(E.frozen (p:=⟨d,0,none⟩) aG).trans aV;have al:=(E.cell (p:=⟨d,0,none⟩) aG).trans aU;have I:(λw':World=>w'.frozen? ⟨d,0,none⟩=false/\w'.cell? ⟨d,0,none⟩=some (.slice x m y)) h:=⟨ak,al⟩;have aI:=Qa a4;have ax:=Qa L;have bq:=Qa E;refine ⟨.inr I,?_⟩;clear P a4 a3 L E;try simp only [Act.put,setIfInBounds_toArray,set_cons_zero,set_cons_succ]
    refine Qq 7 ?_;simp only [getElem_toArray,getElem_cons_zero,getElem_cons_succ];go_simp
    first
     | refine Qq 8 ?_
     | (refine ⟨.inr I,?_⟩;refine Qq 8 ?_)
    simp only [getElem_toArray,getElem_cons_zero,getElem_cons_succ];go_simp;generalize J:h.alloc (.cells #[.slice z f B,.pointer none,.int .i64 0] 113)=R;have H:Below h.heap.size h R:=by rw [<- J];exact (Below.refl _ _).alloc (Nat.le_refl _) _
    have c0:R.heap.size=h.heap.size+1:=by rw [<- J];simp
    have ay:∀ a,some (⟨h.heap.size,0,none⟩:Addr)=some a->∀ j v,([.slice z f B,.pointer none,.int .i64 0]:List Value)[j]?=some v->R.cell? (a.add j)=some v:=by rw [<- J];exact Z9 h #[.slice z f B,.pointer none,.int .i64 0] 113
    have ap:=(H.frozen (p:=⟨d,0,none⟩) (by simp;omega)).trans ak;have aq:=(H.cell (p:=⟨d,0,none⟩) (by simp;omega)).trans al;have br:=Qa J;clear J I ak al
    first
     | refine Qq 9 ?_
     | (refine ⟨.inr ⟨ap,aq⟩,?_⟩;refine Qq 9 ?_)
    simp only [getElem_toArray,getElem_cons_zero,getElem_cons_succ];refine Qcs _ _ _ 99 (by rfl) 0 113 bz _ 3 40 Tryz.underlying99 bA bk bl bm rfl (.slice x m y) m xs (by rfl) (Zi b8.out (bq.out.trans (H.mono bD))) (some ⟨h.heap.size,0,none⟩) 1 1 [.slice z f B,.pointer none,.int .i64 0] (by rfl) (by simp) rfl (λa t j v aj=>ay a t j v aj) (by simp [Value.oneCell']) (by omega) (by omega) (Nat.zero_le _) ?_;intro bI T X a5;obtain ⟨ar,au,rfl⟩:=Qz X;have a0:Zl R T (.slice x m y) (.slice ar (m+1) au):=by first|exact a5|exact a5.undrew
    have a6:=a0.by.block d (by omega) (λe=>bp.out e.symm);have aY:=(World.frozen?_of_block (a:=⟨d,0,none⟩) a6).trans ap;have aZ:=(World.cell?_of_block (a:=⟨d,0,none⟩) a6).trans aq;have a7:(λw':World=>w'.frozen? ⟨d,0,none⟩=false/\w'.cell? ⟨d,0,none⟩=some (.slice x m y)) T:=⟨aY,aZ⟩;have aJ:=Qa a0;have aK:=Qa X;refine ⟨.inr a7,?_⟩;clear X a5 a0 a6 ap aq ay;try simp only [Act.put,setIfInBounds_toArray,set_cons_zero,set_cons_succ]
    iterate 2
     apply Q0 ?_ a7 ?_;rotate_left
     ·(intro w' hSw;(try obtain ⟨bB,bC⟩:=hSw);simp only [getElem_toArray,getElem_cons_zero,getElem_cons_succ];go_simp;try (with_reducible rfl))
     simp only [getElem_toArray,getElem_cons_zero,getElem_cons_succ,Act.put,setIfInBounds_toArray,set_cons_zero,set_cons_succ]
    refine Qq 12 ?_;simp only [getElem_toArray,getElem_cons_zero,getElem_cons_succ];go_simp;refine ⟨by kernel_rfl,?_⟩;refine Zk (by kernel_rfl) ?_ _;have bs:Hid (C d (m+1) (T.setCell ⟨d,0,none⟩ (.slice ar (m+1) au))):=Qa (aX.out _ ⟨.slice z f B,h,.slice ar (m+1) au,T,by rw [<- G.out];exact ax.out,aI.out,aK.out,by rw [br.out];exact aJ.out,rfl⟩);clear a7 aY aZ aX aJ aK aI ax;go_wp2;go_roundw;·exact ⟨m+1,by omega,by go_num,bs⟩
    simp [intOf];omega
   have bt:m=j:=by omega
   subst bt;go_wp2_with fail;obtain ⟨b0,b1⟩:=aO.out d wr aT.out;have b2:=Qa (QhG d none 0 0 wr.drew b0);have b3:=Qa (b1 wr.drew (Below.refl _ _).drew);clear aO ac U ag M b0 b1;have P:(λ_:World=>True) wr.drew:=trivial;refine Zm (S:=λ_=>True) (by kernel_rfl) ?_;iterate 5
    apply Q0 ?_ P ?_;rotate_left
    ·(intro w' hSw;simp only [getElem_toArray,getElem_cons_zero,getElem_cons_succ];go_simp;try (with_reducible rfl))
    simp only [getElem_toArray,getElem_cons_zero,getElem_cons_succ,Act.put,setIfInBounds_toArray,set_cons_zero,set_cons_succ]
   refine Qq 5 ?_;simp only [getElem_toArray,getElem_cons_zero,getElem_cons_succ];go_simp;refine b2.out.mono ?_;rintro e w' ⟨rfl,aL⟩;rw [aL];clear aL b2;try simp only
   refine Qq 6 ?_;simp only [getElem_toArray,getElem_cons_zero,getElem_cons_succ];go_simp;refine b3.out.mono ?_;rintro e w2 ⟨ad,ae,af,rfl,b4⟩;have aM:=Qa b4;clear b4 b3;try simp only
   refine Qq 7 ?_;simp only [getElem_toArray,getElem_cons_zero,getElem_cons_succ];go_simp;refine aM.out.mono ?_;rintro e K ⟨q,rfl,⟨v,c1⟩,c2,b5⟩;have bE:=Qa b5;clear b5 aM;try simp only
   have I:(λ_:World=>True) K:=trivial;iterate 6
    apply Q0 ?_ I ?_;rotate_left
    ·(intro w' hSw;simp only [getElem_toArray,getElem_cons_zero,getElem_cons_succ];go_simp;try (with_reducible rfl))
    simp only [getElem_toArray,getElem_cons_zero,getElem_cons_succ,Act.put,setIfInBounds_toArray,set_cons_zero,set_cons_succ]
   refine Qq 14 ?_;simp only [getElem_toArray,getElem_cons_zero,getElem_cons_succ];go_simp;refine Zk (by kernel_rfl) ?_ _;go_wp2;refine bodyPost_ret (results_tmp3 rfl _ _ _) rfl ?_;exact ⟨d,rfl,bE.out⟩
end Go.Proofs.YtobgcaemnpkbmaaGreatDoor
