import Derived.Test.YtobgcaemnpkbmaaGreatY23
namespace Go.Proofs.YtobgcaemnpkbmaaGreat
set_option maxRecDepth 100000
set_option maxHeartbeats 8000000
open Go.RowKit List
variable {I:List Int} {B b cb i j k n:Nat} {vl:Nat->ByteArray} {A:Nat->ByteArray × Int} {K K':Nat->Nat} {ao:Option Addr} {t:TypeId} {av av' iv v v':Value} {w w' w1 w2:World}
theorem Qri S p R last v w (c:Qq S w p R last v) (a7:0<R.length) : Xl 61 #[Xp p] w λe w'=>e=.returned (Xp w.heap.size)/\Xb w w'/\∃ C,Qq (JH S w w') w' w.heap.size R last C/\∀ b,C.ownBlock=some b->w.heap.size<=b:=by
 obtain ⟨a8,a9,X,Y,a0⟩:=info_parts QfF;obtain ⟨g,q,rfl,af,ah,a1,a2,U⟩:=c.at a7;have x:=Qa c;have L:=c.lt;have M:=c.c0;have N:=c.c1;have h:=c.c2;have V:=c.few;clear c U a1 a2;go_enter Tryz.func61,Tryz.ntmps61;have d:(λw':World=>Xc w' p 1 (Xi 1)/\Xc w' p 2 (Xi last)) w.drew:=⟨N,h⟩;go_wp2_with fail;refine ZU (S:=λw':World=>w'.cell? (Xa p 1)=some (Xi 1)/\w'.cell? (Xa p 2)=some (Xi last)) (by kernel_rfl) ?_;iterate 9
  apply Qbz ?_ d ?_;rotate_left
  ·(intro w' hSw;(try obtain ⟨q0,q1⟩:=hSw);simp only [Xq];go_simp;try (with_reducible rfl))
  simp only [Xq,Xr]
 refine Qbe 9 ?_;simp only [Xq];go_simp;generalize f:(w.alloc (.cells #[Xv,Xi 1,Xi last] 89)).drew=w1;have i:Xb w w1:=by rw [<- f];exact Xd.drew
 have D:w1.cell? (Xa w.heap.size 0)=some Xv:=by rw [<- f];simp [go_sem]
 have O:w1.cell? (Xa w.heap.size 1)=some (Xi 1):=by rw [<- f];simp [go_sem]
 have P:w1.cell? (Xa w.heap.size 2)=some (Xi last):=by rw [<- f];simp [go_sem]
 have E:w1.frozen? (Xa w.heap.size 0)=false:=by rw [<- f];simp [go_sem]
 have T:w1.frozen? (Xa w.heap.size 2)=false:=by rw [<- f];simp [go_sem]
 have G:=(Xh i p 0 L).trans M;have ag:w1.heap.size=w.heap.size+1:=by rw [<- f];simp
 clear f d M N h;refine Qbe 10 ?_;simp only [Xq];go_simp;refine ⟨.inl (by kernel_rfl),?_⟩;refine ZP (by kernel_rfl) ?_ _;have d:(λw':World=>Xf w' w.heap.size 0/\Xc w' w.heap.size 0 Xv/\Xc w' p 0 (Xe g R.length q)) w1.drew:=⟨E,D,G⟩;go_wp2_with fail;refine ZU (S:=λw':World=>w'.frozen? (Xa w.heap.size 0)=false/\w'.cell? (Xa w.heap.size 0)=some Xv/\w'.cell? (Xa p 0)=some (Xe g R.length q)) (by kernel_rfl) ?_;iterate 9
  apply Qbz ?_ d ?_;rotate_left
  ·(intro w' hSw;(try obtain ⟨q0,q1,q2⟩:=hSw);simp only [Xq];go_simp;try (with_reducible rfl))
  simp only [Xq,Xr]
 refine Qbe 9 ?_;simp only [Xq];have z:=QX x.out.row i;refine QeZ w1.drew _ _ 87 (by rfl) w1.heap.size 91 a8 _ 6 80 Tryz.underlying87 a9 X Y a0 rfl Xv 0 [] (by rfl) (Xc0 _ _ _ _) (some (Xa g 0)) R.length q (ZS R) (by rfl) (by simp) z.1 (λa aa j u y=>by cases aa;exact z.cells rfl j u y) (λu y=>by unfold ZS at y;obtain ⟨n,_,r⟩:=Xa9.1 y;exact RN.cells_one n u r) (by omega) (by omega) X0 ?_;intro C w2 t m;rw [Nat.zero_add,nil_append] at t;obtain ⟨s,h,rfl⟩:=Qy t;have l:∀ b,b<w1.heap.size->w2.heap[b]?=w1.heap[b]?:=λb F=>m.by.block b F λe=>by cases e
 have ae:w1.heap.size<=w2.heap.size:=m.size;have B:Xb w w2:=⟨m.by.os.trans i.os,m.by.tape.trans i.tape,m.by.output.trans i.output,by omega,λk ab=>(l k (by omega)).trans (i.block k ab)⟩;have H:Xc w2 w.heap.size 0 Xv:=(Xk w.heap.size 0 (l w.heap.size (by omega))).trans D;have a3:Xc w2 w.heap.size 1 (Xi 1):=(Xk w.heap.size 1 (l w.heap.size (by omega))).trans O;have a4:Xc w2 w.heap.size 2 (Xi last):=(Xk w.heap.size 2 (l w.heap.size (by omega))).trans P;have I:Xf w2 w.heap.size 0:=(Xm w.heap.size 0 (l w.heap.size (by omega))).trans E;have a5:Xf w2 w.heap.size 2:=(Xm w.heap.size 2 (l w.heap.size (by omega))).trans T;have W:Xc w2 p 0 (Xe g R.length q):=(Xh B p 0 L).trans x.out.c0;clear d D O P E T G;have d:(λw':World=>Xf w' w.heap.size 0/\Xc w' w.heap.size 0 Xv/\Xc w' p 0 (Xe g R.length q)) w2:=⟨I,H,W⟩;refine ⟨.inr d,?_⟩;have A:=Qa t;have a6:=Qa B;clear t z m i B l;simp only [Xr];iterate 2
  apply Qbz ?_ d ?_;rotate_left
  ·(intro w' hSw;(try obtain ⟨q0,q1,q2⟩:=hSw);simp only [Xq];go_simp;try (with_reducible rfl))
  simp only [Xq,Xr]
 refine Qbe 12 ?_;simp only [Xq];go_simp;refine ⟨.inl (by kernel_rfl),?_⟩;refine ZP (by kernel_rfl) ?_ _;go_wp2;go_ret;have ai:∀ b,b≠w.heap.size->(w2.setCell (Xa w.heap.size 0) (.slice s R.length h)).heap[b]?=w2.heap[b]?:=λb F=>X5 F;have J:(w2.setCell (Xa w.heap.size 0) (.slice s R.length h)).heap.size=w2.heap.size:=QJ _ _ _;have K:=a6.out.setCell (p:=(Xa w.heap.size 0)) X0 (.slice s R.length h);have o:∀ b,Value.ownBlock (.slice s R.length h)=some b->w.heap.size<b/\b<w2.heap.size:=λb e=>⟨by have:=(A.out.lt b e).1;omega,(A.out.lt b e).2⟩;refine ⟨rfl,K,.slice s R.length h,⟨.inr ⟨X0,by rw [J];omega⟩,?_,?_,?_,?_,?_,QbG (Qbl A.out (.inr λe=>by have:=(o _ e).1;simp at this)) X3,λb e=>⟨.inr ⟨by have:=(o b e).1;omega,by rw [J];exact (o b e).2⟩,by have:=(o b e).1;omega⟩,V,λn r=>?_,λn r ac e=>?_⟩,λb e=>by have:=(o b e).1;omega⟩
 ·simp [go_sem,H]
 ·simp [go_sem,a3]
 ·simp [go_sem,a4]
 ·simp [go_sem,I]
 ·simp [go_sem,a5]
 ·exact ((x.out.node n r).below K).mono λ_ _ c=>.inl c
 have aj:=((x.out.node n r).own ac e).2;exact ⟨by omega,λad=>by have:=(o _ ad.symm).1;omega⟩
structure Qd3 (w:World) (ga gk n:Nat) (A:Nat->ByteArray × Int):Prop where
 la:ga<w.heap.size
 lk:gk<w.heap.size
 ca:∀ i,i<n->w.cell? (Xa ga i)=some (.string (A i).1)
 ck:∀ i,i<n->w.cell? (Xa gk i)=some (Xi (A i).2)
theorem Qd3.below {c d:Nat} (a:Qd3 w c d n A) (b:Xb w w'):Qd3 w' c d n A := ⟨Xb4 a.la b.size,Xb4 a.lk b.size,λi f=>(Xh b c _ a.la).trans (a.ca i f),λi f=>(Xh b d _ a.lk).trans (a.ck i f)⟩
theorem QlT (A:Nat->ByteArray × Int) (i:Nat):∀ k,ZR A i k<=k| 0=>X0| k+1=>by have:=QlT A i k;rw [ZR];split<;>omega
theorem QqF (a:((A k).1.toList==(A i).1.toList)=true) (b:((A k).2==0)=true):ZR A i (k+1)=ZR A i k+1:=by rw [ZR,if_pos ⟨QiC (by simpa using a),by simpa using b⟩]
theorem Qoz (a:((A k).1.toList==(A i).1.toList)=false):ZR A i (k+1)=ZR A i k:=by rw [ZR,if_neg λ⟨e,_⟩=>by rw [e] at a;simp at a,Nat.add_zero]
theorem QsB (a:((A k).2==0)=false):ZR A i (k+1)=ZR A i k:=by rw [ZR,if_neg λ⟨_,e⟩=>by rw [e] at a;simp at a,Nat.add_zero]
theorem Qj3 (m o n r s a:Nat) A w (C:n<=1000) (p:Qd3 w m o n A) (q:a<n) : Xl 96 #[Xe m n r,Xe o n s,Xi (a:Int)] w λe w'=>e=.returned (Xi (ZR A a a:Nat))/\Xb w w':=by
 have z:=Qa p;clear p;have D:(0:Int)<=(a:Int):=by omega
 have E:(a:Int)<(n:Int):=by omega
 go_enter Tryz.func96,Tryz.ntmps96;go_wp2;go_loopw [7,8] (λt l wr=>∃ i:Nat,i<=a/\l=Xi (i:Int)/\t=Xi (ZR A a i:Nat)/\Hid (Xb w wr)) (λ_ l _=>a-(intOf l).toNat);·exact ⟨0,X3,rfl,rfl,Qa X4⟩
 case round =>
  obtain ⟨i,F,rfl,rfl,c⟩:=hrel;by_cases k:i<a
  ·have d:=z.out.below c.out;have G:=d.ca i (by omega);have H:=d.ca a q;have I:=d.ck i (by omega);have J:=d.la;have K:=d.lk;have L:(0:Int)<=(i:Int):=by omega
   have M:(i:Int)<(n:Int):=by omega
   have u:(i:Int)<(a:Int):=by omega
   have B:=QlT A a i;have f:Hid (if ((A i).1.toList==(A a).1.toList)=true then (if ((A i).2==0)=true then ZR A a (i+1)=ZR A a i+1 else ZR A a (i+1)=ZR A a i) else ZR A a (i+1)=ZR A a i):=Qa (by cases g:((A i).1.toList==(A a).1.toList) with| false=>rw [if_neg (by simp)];exact Qoz g| true =>rw [if_pos rfl];cases h:((A i).2==0) with| false=>rw [if_neg (by simp)];exact QsB h| true=>rw [if_pos rfl];exact QqF g h);clear d;generalize ZR A a i=rk at *;generalize (A i).1=v at *;generalize (A a).1=x at *;generalize (A i).2=y at *;cases g:(v.toList==x.toList) with| false =>have b:=f.out;rw [g,if_neg (by simp)] at b;have j:=Qa b;clear b f;go_wp2;go_big_quiet (fail);go_wp2_with fail;refine ⟨⟨i+1,k,by go_num,by rw [j.out],Qa (c.out.trans ((Qv (.refl _ _) _).mono c.out.size))⟩,by simp [intOf];omega⟩| true =>cases h:(y==0) with| false =>have b:=f.out;rw [g,h,if_pos rfl,if_neg (by simp)] at b;have j:=Qa b;clear b f;go_wp2;go_big_quiet (fail);go_wp2_with fail;refine ⟨⟨i+1,k,by go_num,by rw [j.out],Qa (c.out.trans ((Qv (.refl _ _) _).mono c.out.size))⟩,by simp [intOf];omega⟩| true =>have b:=f.out;rw [g,h,if_pos rfl,if_pos rfl] at b;have j:=Qa b;clear b f;go_wp2;go_big_quiet (fail);go_wp2_with fail;refine ⟨⟨i+1,k,by go_num,by rw [j.out];rfl,Qa (c.out.trans ((Qv (.refl _ _) _).mono c.out.size))⟩,by simp [intOf];omega⟩
  have e:i=a:=by omega
  have u:¬ (i:Int)<(a:Int):=by omega
  rw [e];clear e;go_wp2;go_ret;exact ⟨rfl,c.out⟩
theorem Qvr {B:Nat->ByteArray × Int} (a:((A i).1.toList==(B j).1.toList)=false):J6 A B j i=false:=by unfold J6;rw [decide_eq_false λe=>by rw [e] at a;simp at a];rfl
theorem Qs8 {B:Nat->ByteArray × Int} (a:((A i).2==(B j).2)=false):J6 A B j i=false:=by unfold J6;rw [decide_eq_false λe=>by rw [e] at a;simp at a];rfl
theorem QqT {B:Nat->ByteArray × Int} (a:((A i).1.toList==(B j).1.toList)=true) (b:((A i).2==(B j).2)=true) (c:((A i).2==0)=false):J6 A B j i=true:=by unfold J6;rw [decide_eq_true (Prod.ext (QiC (by simpa using a)) (by simpa using b)),decide_eq_false (by simpa using c)];rfl
theorem Qw6 {B:Nat->ByteArray × Int} (a:((A i).1.toList==(B j).1.toList)=true) (b:((A i).2==(B j).2)=true) (c:((A i).2==0)=true):J6 A B j i=((ZR A i i:Int)==(ZR B j j:Int)):=by unfold J6;rw [decide_eq_true (Prod.ext (QiC (by simpa using a)) (by simpa using b)),decide_eq_true (by simpa using c),Bool.eq_iff_iff];simp;omega
theorem QiY {B:Nat->ByteArray × Int} (b:J0 A B j i=-1) (a:J6 A B j i=false):J0 A B j (i+1)=-1:=by rw [J0,if_pos b,a];rfl
theorem Qjh {A B:Nat->ByteArray × Int} {j i:Nat} (b:J0 A B j i=-1) (a:J6 A B j i=true):∀ n,i<n->J0 A B j n=(i:Int)
 | 0,hn=>by omega
 | n+1,hn=>by
  rw [J0];by_cases e:i=n
  ·subst e;rw [if_pos b,a,if_pos rfl]
  rw [Qjh b a n (by omega),if_neg (by omega)]
theorem Qv2 (g h n r F k v m s G b:Nat) A B w (a9:n<=1000) (aa:m<=1000) (a6:Qd3 w g h n A) (V:Qd3 w k v m B) (E:b<m) (ag:0<n) : Xl 74 #[Xe g n r,Xe h n F,Xe k m s,Xe v m G,Xi (b:Int)] w λe w'=>e=.returned (Xi (J0 A B b n))/\Xb w w':=by
 have D:=Qa a6;have W:=Qa V;clear a6 V;have ah:(0:Int)<=(b:Int):=by omega
 have ai:(b:Int)<(m:Int):=by omega
 have K:Hid (∀ w1,Xb w w1->Xl 96 #[Xe k m s,Xe v m G,Xi (b:Int)] w1 λe w'=>e=.returned (Xi (ZR B b b:Nat))/\Xb w1 w'):=Qa λw1 f=>Qj3 k v m s G b B w1 aa (W.out.below f) E;have L:Hid (∀ w1 i,i<n->Xb w w1->Xl 96 #[Xe g n r,Xe h n F,Xi (i:Int)] w1 λe w'=>e=.returned (Xi (ZR A i i:Nat))/\Xb w1 w'):=Qa λw1 i X f=>Qj3 g h n r F i A w1 a9 (D.out.below f) X;go_enter Tryz.func74,Tryz.ntmps74;go_wp2;go_loopw [11] (λH wr=>∃ i:Nat,i<=n/\H=Xi (i:Int)/\Hid (J0 A B b i=-1)/\Hid (Xb w wr)) (λH _=>n-(intOf H).toNat);·exact ⟨0,X3,rfl,Qa rfl,Qa X4⟩
 case round =>
  obtain ⟨i,X,rfl,l,a⟩:=hrel;by_cases c:i<n
  ·have t:=D.out.below a.out;have o:=W.out.below a.out;have Y:=t.ca i c;have a0:=o.ca b E;have x:=t.ck i c;have a1:=o.ck b E;have a2:=t.la;have y:=t.lk;have a3:=o.la;have a4:=o.lk;have aj:(0:Int)<=(i:Int):=by omega
   have ak:(i:Int)<(n:Int):=by omega
   have M:=Qa λw1 f=>L.out w1 i c f;have N:=Qa (Qvr (A:=A) (B:=B) (j:=b) (i:=i));have O:=Qa (Qs8 (A:=A) (B:=B) (j:=b) (i:=i));have P:=Qa (QqT (A:=A) (B:=B) (j:=b) (i:=i));have R:=Qa (Qw6 (A:=A) (B:=B) (j:=b) (i:=i));have S:Hid (∀ w1,Xb w w1->Xc w1 h i (Xi (A i).2)/\h<w1.heap.size):=Qa λw1 f=>⟨(D.out.below f).ck i c,(D.out.below f).lk⟩;clear t o;generalize (A i).1=ab at *;generalize (B b).1=ac at *;generalize (A i).2=u at *;generalize (B b).2=a5 at *;cases I:(ab.toList==ac.toList) with
   | false =>have d:=Qa (QiY l.out (N.out I));go_wp2;go_big_quiet (fail);go_wp2_with fail;refine ⟨⟨i+1,c,by go_num,d,Qa (a.out.trans ((Qv (.refl _ _) _).mono a.out.size))⟩,by simp [intOf];omega⟩
   | true =>
    cases z:(u==a5) with
    | false =>have d:=Qa (QiY l.out (O.out z));go_wp2;go_big_quiet (fail);go_wp2_with fail;refine ⟨⟨i+1,c,by go_num,d,Qa (a.out.trans ((Qv (.refl _ _) _).mono a.out.size))⟩,by simp [intOf];omega⟩
    | true =>
     have al:(u !=a5)=false:=by rw [bne,z];rfl
     cases C:(u==0) with
     | false =>
      have d:=Qa (Qjh l.out (P.out I z C) n c);have ad:(u !=0)=true:=by rw [bne,C];rfl
      go_wp2;go_big_quiet (fail);go_wp2;go_ret;exact ⟨by rw [d.out];rfl,a.out.trans ((Qv (.refl _ _) _).mono a.out.size)⟩
     | true =>
      have ad:(u !=0)=false:=by rw [bne,C];rfl
      have T:=Qa (R.out I z C);clear N O P R L;generalize (ZR A i i:Int)=ae at *;generalize (ZR B b b:Int)=af at *;cases U:(ae==af) with
      | false =>have d:=Qa (QiY l.out (T.out.trans U));go_wp2;go_big_quiet (fail);replace a:=Qa (a.out.trans ((Qv (.refl wr.heap.size wr) nq).mono a.out.size));generalize wr.drewN nq=a7 at a ⊢;clear Y a0 x a1 a2 y a3 a4;obtain ⟨x,y⟩:=S.out _ a.out;go_wp2_with (first|(go_at_call_of 96 (Xe g n r);refine (Qb M _ a.out).mono ?_;rintro e w1 ⟨rfl,p⟩;replace a:=Qa (a.out.trans (p.mono a.out.size));clear p)|(go_at_call_of 96 (Xe k m s);refine (Qb K _ a.out).mono ?_;rintro e w2 ⟨rfl,q⟩;replace a:=Qa (a.out.trans (q.mono a.out.size));clear q));refine ⟨⟨i+1,c,by go_num,d,a⟩,by simp [intOf];omega⟩
      | true =>have d:=Qa (Qjh l.out (T.out.trans U) n c);go_wp2;go_big_quiet (fail);replace a:=Qa (a.out.trans ((Qv (.refl wr.heap.size wr) nq).mono a.out.size));generalize wr.drewN nq=a7 at a ⊢;clear Y a0 x a1 a2 y a3 a4;obtain ⟨x,y⟩:=S.out _ a.out;go_wp2_with (first|(go_at_call_of 96 (Xe g n r);refine (Qb M _ a.out).mono ?_;rintro e w1 ⟨rfl,p⟩;replace a:=Qa (a.out.trans (p.mono a.out.size));clear p)|(go_at_call_of 96 (Xe k m s);refine (Qb K _ a.out).mono ?_;rintro e w2 ⟨rfl,q⟩;replace a:=Qa (a.out.trans (q.mono a.out.size));clear q));go_ret;exact ⟨by rw [d.out];rfl,a.out⟩
  have e:i=n:=by omega
  have ao:¬ (i:Int)<(n:Int):=by omega
  have J:=l.out;rw [e] at J;have a8:=Qa J;clear e J;go_wp2;go_ret;exact ⟨by rw [a8.out];rfl,a.out⟩
theorem Quk (b c:Value) (a:Int) (w:World) : Xl 74 #[Xv,Xv,b,c,Xi a] w λe w'=>e=.returned (Xi (-1))/\w'=w:=by
 go_enter Tryz.func74,Tryz.ntmps74;go_wp2;go_loopw [11] (λd wr=>d=Xi 0/\wr=w) (λ_ _=>1);·exact ⟨rfl,rfl⟩
 case round =>obtain ⟨rfl,rfl⟩:=hrel;go_wp2;go_ret;exact ⟨rfl,rfl⟩
def Jr (L:Nat->Qd) (s:Nat):Nat->List Nat
 | 0=>[]
 | k+1=>Jr L s k++(if (L (s+1+k)).d=(L s).d+1 then [s+1+k] else [])
theorem Qi7 (L:Nat->Qd) (s:Nat):∀ k,(Jr L s k).length<=k
 | 0=>X0
 | k+1=>by
  have:=Qi7 L s k;rw [Jr,length_append];split
  ·show _+1<=_;omega
  show _+0<=_;omega
theorem Qtq (b u N c:Nat) L (s n:Nat) w (ac:N<=1000) (v:Qac w b u N L) (ad:1<=n) (ae:s+n<=N) (x:∀ i,0<i->i<n->(L s).d<(L (s+i)).d) (y:s+n<N->(L (s+n)).d<=(L s).d) (af:0<=(L s).d/\(L s).d<=1000) : Xl 73 #[.slice (some (Xa b u)) N c,Xi (s:Int)] w λe w'=>∃ r,e=.returned r/\Q0 w' w.heap.size r (Jb (Jr L s (n-1)))/\Xb w w':=by
 obtain ⟨U,J,K,M,O⟩:=info_parts QbF;have B:=v.lt;have V:Hid (∀ wr,Xb w wr->(∀ i,i<N->Xc wr b (u+i*5) (Xi (L i).d))/\b<wr.heap.size):=Qa λwr C=>⟨λi W=>(Xh C b _ B).trans (v.node i W).c0,Xb4 B C.size⟩;clear v;have X:=Qa x;have Y:=Qa y;clear x y;have ag:(0:Int)<=(s:Int):=by omega
 have ah:(s:Int)<(N:Int):=by omega
 go_enter Tryz.func73,Tryz.ntmps73;go_wp2;go_loopw [5,6] (λa0 p wr=>∃ (i:Nat) (q:Value),s<i/\i<=s+n/\p=Xi (i:Int)/\q=a0/\Hid (Q0 wr w.heap.size q (Jb (Jr L s (i-s-1))))/\Hid (Xb w wr)) (λ_ p _=>s+n-(intOf p).toNat);·exact ⟨s+1,_,by omega,by omega,by go_num,rfl,Qa (by rw [show s+1-s-1=0 by omega];exact Xc0 _ _ _ _),Qa X4⟩
 case round =>
  obtain ⟨i,q,a6,a7,rfl,rfl,D,f⟩:=hrel;obtain ⟨g,a8⟩:=V.out _ f.out;have ai:=g s (by omega);have aj:(0:Int)<=(i:Int):=by omega
  by_cases a9:i<s+n
  ·have a1:=g i (by omega);have E:(i:Int)<(N:Int):=by omega
   have P:=X.out (i-s) (by omega) (by omega);rw [show s+(i-s)=i by omega] at P;have a:Jr L s (i+1-s-1)=Jr L s (i-s-1)++(if (L i).d=(L s).d+1 then [i] else []):=by rw [show i+1-s-1=(i-s-1)+1 by omega,Jr,show s+1+(i-s-1)=i by omega]
   have aa:=Qi7 L s (i-s-1);clear g;generalize Jr L s (i-s-1)=ks at *;generalize (L i).d=F at *;generalize (L s).d=G at *;have l:=Qa a;clear a;have m:Hid (∀ k,Q0 (wr.drewN k) w.heap.size q (Jb ks)):=Qa λk=>QX D.out (Qv (.refl _ _) k);have z:Hid (∀ k,Xb w (wr.drewN k)):=Qa λk=>f.out.trans ((Qv (.refl _ _) k).mono f.out.size);have ab:=f.out.size;cases H:(F==G+1) with
   | true =>have a:=l.out;rw [if_pos (by simpa using H)] at a;have o:=Qa a;clear a l;go_wp2;go_big_quiet (fail);go_wp2;go_big_quiet (fail);go_wp2_with (at_builtin;refine Zp _ rfl (.tmp 40) (.tmp 42) 69 rfl w.heap.size 3 U (Xi 0) 1 8 Tryz.underlying69 J K M O rfl q _ _ rfl ((m.out _).alloc _) (some (Xa wr.heap.size 0)) 1 1 [Xi i] rfl (by simp) rfl (Q3 _ _ _) (Qmn [i]) (by rw [Qar];omega) (by rw [Qar];omega) (by simp;omega) ?_;intro a2 w1 R S _);refine ⟨⟨i+1,a2,by omega,by omega,by go_num,rfl,Qa ?_,Qa (((z.out _).alloc (by simp;omega) _).grown S.out.by (by simp;omega) (λj a3=>(World.ownsRow.lt (m.out 0) j a3).1))⟩,by simp [intOf];omega⟩;unfold Q0;rw [o.out,QlR,length_append];exact R.out
   | false =>have a:=l.out;rw [if_neg (by simpa using H),append_nil] at a;have o:=Qa a;clear a l;go_wp2;go_big_quiet (fail);go_wp2;go_big_quiet (fail);go_wp2_with fail;refine ⟨⟨i+1,q,by omega,by omega,by go_num,rfl,Qa (by rw [o.out];exact m.out _),Qa (z.out _)⟩,by simp [intOf];omega⟩
  have e:i=s+n:=by omega
  have t:=D.out;rw [e,show s+n-s-1=n-1 by omega] at t;have A:=Qa t;clear t;by_cases I:i<N
  ·have a1:=g i I;have E:(i:Int)<(N:Int):=by omega
   have T:=Y.out (by omega);rw [<- e] at T;have a5:¬ (L s).d<(L i).d:=by omega
   have h:Hid (∀ k,Q0 (wr.drewN k) w.heap.size q (Jb (Jr L s (n-1)))/\Xb w (wr.drewN k)):=Qa λk=>⟨QX A.out (Qv (.refl _ _) k),f.out.trans ((Qv (.refl _ _) k).mono f.out.size)⟩;have a4:=Qa e;clear g e;generalize (L i).d=F at *;generalize (L s).d=G at *;go_wp2;go_big_quiet (fail);go_wp2;go_ret;exact ⟨q,rfl,(h.out _).1,(h.out _).2⟩
  have E:¬ (i:Int)<(N:Int):=by omega
  have h:Hid (∀ k,Q0 (wr.drewN k) w.heap.size q (Jb (Jr L s (n-1)))/\Xb w (wr.drewN k)):=Qa λk=>⟨QX A.out (Qv (.refl _ _) k),f.out.trans ((Qv (.refl _ _) k).mono f.out.size)⟩;have a4:=Qa e;clear g e;go_wp2;go_big_quiet (fail);go_wp2;go_ret;exact ⟨q,rfl,(h.out _).1,(h.out _).2⟩
theorem QfC {v:Nat->Int} {a:List Nat} {i:Nat} (b:∀ k,k<i->a.getD k 0<=k+1):∀ k,k<=i->Z9 v a i k<=k+1| 0,_=>X0| k+1,hk=>by have:=QfC (v:=v) b k (by omega);have:=b k (by omega);rw [Z9];split<;>omega
theorem Qhn (v:Nat->Int):∀ i,(Zr v i).length=i| 0=>rfl| i+1=>by rw [Zr,length_append,Qhn v i];rfl
theorem QeA (v:Nat->Int):∀ {n i:Nat},i<n->(Zr v n).getD i 0=Z9 v (Zr v i) i i
 | 0,i,h=>by omega
 | n+1,i,h=>by
  rw [Zr,getD_eq_getElem?_getD];by_cases e:i=n
  ·subst e;rw [getElem?_append_right (by rw [Qhn];exact X0),Qhn,Nat.sub_self];rfl
  rw [getElem?_append_left (by rw [Qhn];omega),<- getD_eq_getElem?_getD];exact QeA v (by omega)
theorem QeU (v:Nat->Int):∀ n k,k<n->(Zr v n).getD k 0<=k+1
 | 0,k,h=>by omega
 | n+1,k,h=>by
  rw [QeA v h];by_cases e:k=n
  ·subst e;exact QfC (λq a=>QeU v k q a) k X0
  have:=QeU v n k (by omega);rw [QeA v (by omega)] at this;exact this
theorem Qjk (v:Nat->Int):∀ n,QaH v n<=n| 0=>X0| n+1=>by have:=Qjk v n;have:=QfC (v:=v) (λq a=>QeU v n q a) n X0;rw [QaH];split<;>omega
theorem QuP (g n c:Nat) (v:Nat->Int) (w:World) (ak:0<n) (au:n<=1000) (z:g<w.heap.size) (T:∀ i,i<n->w.cell? (Xa g i)=some (Xi (v i))) : Xl 76 #[Xe g n c] w λe w'=>e=.returned (Xi (QaH v n:Nat))/\Xb w w':=by
 obtain ⟨ac,ad,a2,a3,a4⟩:=info_parts QbF;have U:=Qa T;clear T;go_enter Tryz.func76,Tryz.ntmps76;go_wp2_with (first|(refine Qfj rfl (.tmp 8) (.tmp 8) 69 rfl 3 ac _ 1 8 Tryz.underlying69 ad a2 a3 a4 .i64 .i64 _ n rfl rfl (by omega) (by omega) (by omega) ?_;intro w1 r M a5 N));have O:=Qa N;have x:=M.out;rw [Nat.mul_one] at x;have P:=Qa x;clear x;clear N M a5;go_loopw [3,5,6] (λae A _ wr=>∃ i:Nat,i<=n/\A=Xi (i:Int)/\ae=Xi (QaH v i:Nat)/\Hid (wr.rowIs w.heap.size 3 n (λj=>if j<i then Xi ((Zr v n).getD j 0:Nat) else r j))/\Hid (Xb w wr)) (λ_ A _ _=>n-(intOf A).toNat);·exact ⟨0,X3,rfl,rfl,Qa (P.out.congr λj _=>by rw [if_neg (Nat.not_lt_zero _)]),O⟩
 case round =>
  obtain ⟨i,al,rfl,rfl,B,V⟩:=hrel;clear O P;by_cases o:i<n
  ·obtain ⟨u0,a6⟩:∃ u,wr.cell? (Xa w.heap.size i)=some u:=⟨_,B.out.cell (by omega)⟩;have av:=B.out.frozen i;have aw:(0:Int)<=(i:Int):=by omega
   have af:(i:Int)<(n:Int):=by omega
   have ai:=Qjk v i;have W:Hid ((wr.setCell (Xa w.heap.size i) (Xi 1)).rowIs w.heap.size 3 n (λj=>if j=i then Xi (Z9 v (Zr v i) i 0:Nat) else if j<i then Xi ((Zr v n).getD j 0:Nat) else r j)):=Qa (B.out.set _ _);have R:Hid (Xb w (wr.setCell (Xa w.heap.size i) (Xi 1))):=Qa (V.out.setCell X0 _);have aj:w.heap.size<wr.heap.size:=X6 a6;go_wp2_with fail;generalize wr.setCell (Xa w.heap.size i) (Xi 1)=w2 at W R ⊢;go_loopw [6] (λC X=>∃ k:Nat,k<=i/\C=Xi (k:Int)/\Hid (X.rowIs w.heap.size 3 n (λj=>if j=i then Xi (Z9 v (Zr v i) i k:Nat) else if j<i then Xi ((Zr v n).getD j 0:Nat) else r j))/\Hid (Xb w X)) (λC _=>i-(intOf C).toNat);·exact ⟨0,X3,rfl,W,R⟩
   case round =>
    obtain ⟨k,a7,rfl,f,b⟩:=hrel;have ax:=(Xh b.out g i z).trans (U.out i o);have D:=f.out.cell (i:=i) o;rw [if_pos rfl] at D;have ao:=Xb4 z b.out.size;have ap:w.heap.size<wr.heap.size:=X6 D;by_cases a8:k<i
    ·have ay:=(Xh b.out g k z).trans (U.out k (by omega));have ag:=f.out.cell (i:=k) (by omega);rw [if_neg (by omega),if_pos a8] at ag;have az:(0:Int)<=(k:Int):=by omega
     have aA:(k:Int)<(n:Int):=by omega
     have ah:(k:Int)<(i:Int):=by omega
     have aq:=QeU v n k (by omega);have a9:=QfC (v:=v) (λq E=>QeU v i q E) k a7;have a:Z9 v (Zr v i) i (k+1)=if v k<v i/\Z9 v (Zr v i) i k<(Zr v n).getD k 0+1 then (Zr v n).getD k 0+1 else Z9 v (Zr v i) i k:=by rw [Z9,QeA v (show k<i by omega),QeA v (show k<n by omega)]
     have aB:=f.out.frozen i;have h:Hid (∀ q,(wr.drewN q).rowIs w.heap.size 3 n (λj=>if j=i then Xi (Z9 v (Zr v i) i k:Nat) else if j<i then Xi ((Zr v n).getD j 0:Nat) else r j)):=Qa λq=>f.out;have l:Hid (∀ q,Xb w (wr.drewN q)):=Qa λq=>b.out.trans ((Qv (.refl _ _) q).mono b.out.size);have m:=Qa a;clear a;by_cases F:v k<v i
     ·by_cases Y:Z9 v (Zr v i) i k<(Zr v n).getD k 0+1
      ·have a:=m.out;rw [if_pos ⟨F,Y⟩] at a;have p:=Qa a;clear a m;generalize K:(Zr v n).getD k 0=bk at *;generalize L:Z9 v (Zr v i) i k=s at *;have aa:(s:Int)<(bk:Int)+1:=by omega
       go_wp2;go_big_quiet (fail);go_wp2_with fail;refine ⟨⟨k+1,by omega,by go_num,Qa (by
        rw [p.out];refine ((h.out _).set _ _).congr λj _=>?_;by_cases e:j=i
        ·rw [if_pos e,if_pos e];rfl
        rw [if_neg e,if_neg e,if_neg e]),Qa ((l.out _).setCell X0 _)⟩,by simp [intOf];omega⟩
      have a:=m.out;rw [if_neg λe=>Y e.2] at a;have p:=Qa a;clear a m;generalize K:(Zr v n).getD k 0=bk at *;generalize L:Z9 v (Zr v i) i k=s at *;have aa:¬ (s:Int)<(bk:Int)+1:=by omega
      go_wp2;go_big_quiet (fail);go_wp2_with fail;refine ⟨⟨k+1,by omega,by go_num,Qa (by rw [p.out];exact h.out _),Qa (l.out _)⟩,by simp [intOf];omega⟩
     have a:=m.out;rw [if_neg λe=>F e.1] at a;have ar:decide (v k<v i)=false:=Xc3 F;have p:=Qa a;clear a m;generalize K:(Zr v n).getD k 0=bk at *;generalize L:Z9 v (Zr v i) i k=s at *;go_wp2;go_big_quiet (fail);go_wp2_with fail;refine ⟨⟨k+1,by omega,by go_num,Qa (by rw [p.out];exact h.out _),Qa (l.out _)⟩,by simp [intOf];omega⟩
    have e:k=i:=by omega
    have ah:¬ (k:Int)<(i:Int):=by omega
    have G:=f.out;rw [e] at G D;have S:QaH v (i+1)=if QaH v i<Z9 v (Zr v i) i i then Z9 v (Zr v i) i i else QaH v i:=rfl;have a9:=QfC (v:=v) (λq E=>QeU v i q E) i X0;have h:Hid (∀ q,(wr.drewN q).rowIs w.heap.size 3 n (λj=>if j<i+1 then Xi ((Zr v n).getD j 0:Nat) else r j)):=Qa λq=>G.congr λj aC=>by
     by_cases H:j=i
     ·rw [if_pos H,if_pos (by omega),H,QeA v o]
     rw [if_neg H];by_cases a0:j<i
     ·rw [if_pos a0,if_pos (by omega)]
     rw [if_neg a0,if_neg (by omega)]
    have l:Hid (∀ q,Xb w (wr.drewN q)):=Qa λq=>b.out.trans ((Qv (.refl _ _) q).mono b.out.size);have t:=Qa S;clear S G e f;generalize Z9 v (Zr v i) i i=I at *;generalize QaH v i=J at *;by_cases a1:J<I
    ·have d:=t.out;rw [if_pos a1] at d;have y:=Qa d;clear d t;have ab:(J:Int)<(I:Int):=by omega
     go_wp2_with fail;refine ⟨⟨i+1,o,by go_num,by rw [y.out],Qa (h.out 0),Qa (l.out 0)⟩,by simp [intOf];omega⟩
    have d:=t.out;rw [if_neg a1] at d;have y:=Qa d;clear d t;have ab:¬ (J:Int)<(I:Int):=by omega
    go_wp2_with fail;refine ⟨⟨i+1,o,by go_num,by rw [y.out],Qa (h.out 0),Qa (l.out 0)⟩,by simp [intOf];omega⟩
  have e:i=n:=by omega
  have af:¬ (i:Int)<(n:Int):=by omega
  rw [e];clear e;go_wp2;go_ret;exact ⟨rfl,V.out⟩
theorem QtE (w:World):Xl 76 #[Xv] w λe w'=>e=.returned (Xi 0)/\Xb w w':=by
 obtain ⟨i,j,b,c,d⟩:=info_parts QbF;go_enter Tryz.func76,Tryz.ntmps76;go_wp2_with (first|(refine Qfj rfl (.tmp 8) (.tmp 8) 69 rfl 3 i _ 1 8 Tryz.underlying69 j b c d .i64 .i64 _ 0 rfl rfl (by omega) (by omega) (by omega) ?_;intro w1 n f g a));have h:=Qa a;clear a f g;go_loopw [3,5,6] (λk l _ wr=>l=Xi 0/\k=Xi 0/\Hid (Xb w wr)) (λ_ _ _ _=>1);·exact ⟨rfl,rfl,h⟩
 case round =>obtain ⟨rfl,rfl,m⟩:=hrel;go_wp2;go_ret;exact ⟨rfl,m.out⟩
def Qbc (K:Nat->Nat) (a b:Value) (j:Nat):Value:=if j<7 then Xi (K j:Nat) else if j=7 then a else b
def Z0 (w:World) (a:Nat) (K:Nat->Nat) (b c:Value):Prop:=w.rowIs a 131 9 (Qbc K b c)
def QdF (m:Qd) (j:Nat):Nat:=(if j=1 then 1 else 0)+(if j=2 then 1 else 0)+(if j=4 then m.an else 0)
def JW (L:Nat->Qd) (s:Nat) (j:Nat):Nat->Nat
 | 0=>0
 | i+1=>JW L s j i+QdF (L (s+i)) j
theorem Qiu {L:Nat->Qd} {s:Nat} (j:Nat):∀ n,(∀ i,i<n->(L (s+i)).an<=5)->JW L s j n<=7*n| 0,_=>X0| n+1,h=>by have a:=Qiu (L:=L) (s:=s) j n λi b=>h i (by omega);have c:=h n (by omega);rw [JW];unfold QdF;split<;>split<;>split<;>omega
theorem Qwn (f:Nat) K o p (b C N c:Nat) L (s n:Nat) w (aS:N<=1000) (g:Qac w b C N L) (aq:b≠f) (ab:Z0 w f K o p) (ad:∀ j,K j<=1000000) (aT:1<=n) (aU:s+n<=N) (a5:∀ i,0<i->i<n->(L s).d<(L (s+i)).d) (a6:s+n<N->(L (s+n)).d<=(L s).d) (a9:∀ i,i<n->(L (s+i)).an<=5) : Xl 75 #[Xp f,.slice (some (Xa b C)) N c,Xi (s:Int)] w λe w'=>e=.returned (.tuple #[])/\Z0 w' f (λj=>K j+JW L s j n) o p/\Qi (λx=>x=f) w w':=by
 have ae:=g.lt;have T:Hid (∀ wr,Qi (λx=>x=f) w wr->(∀ i,i<N->wr.cell? (Xa b (C+i*5))=some (Xi (L i).d)/\wr.cell? (Xa b (C+i*5+3))=some (.slice (L i).ao (L i).an (L i).ac))/\b<wr.heap.size):=Qa λwr H=>by
  have af:=H.block b ae aq;refine ⟨λi ag=>⟨?_,?_⟩,Xb4 ae H.size⟩
  ·rw [Xk b (C+i*5) af];exact (g.node i ag).c0
  rw [Xk b (C+i*5+3) af];exact (g.node i ag).c3
 clear g;have aF:=Qa a5;have aG:=Qa a6;have ah:=Qa a9;have ar:=Qa ab;have U:=Qa ad;clear a5 a6 a9 ab ad;have aV:(0:Int)<=(s:Int):=by omega
 have aW:(s:Int)<(N:Int):=by omega
 go_enter Tryz.func75,Tryz.ntmps75;go_wp2;go_loopw [6] (λV wr=>∃ i:Nat,s<=i/\i<=s+n/\V=Xi (i:Int)/\Hid (Z0 wr f (λj=>K j+JW L s j (i-s)) o p)/\Hid (Qi (λx=>x=f) w wr)) (λV _=>s+n-(intOf V).toNat);·exact ⟨s,X0,by omega,rfl,Qa (by rw [Nat.sub_self];exact ar.out),Qa (Qi.of_below X4)⟩
 case round =>
  obtain ⟨i,aM,aN,rfl,k,h⟩:=hrel;obtain ⟨E,I⟩:=T.out _ h.out;have ai:=(E s (by omega)).1;have aX:(0:Int)<=(i:Int):=by omega
  by_cases aO:i<s+n
  ·obtain ⟨W,M⟩:=E i (by omega);have aj:(i:Int)<(N:Int):=by omega
   have au:=ah.out (i-s) (by omega);rw [show s+(i-s)=i by omega] at au;have J:=λj=>Qiu (L:=L) (s:=s) j (i-s) λq ak=>ah.out q (by omega);have av:=U.out 1;have aw:=U.out 2;have ax:=U.out 4;have ay:=J 1;have az:=J 2;have aA:=J 4;have aa:∀ j,JW L s j (i+1-s)=JW L s j (i-s)+QdF (L i) j:=λj=>by rw [show i+1-s=(i-s)+1 by omega,JW,show s+(i-s)=i by omega]
   have G:=Qa aa;have O:i≠s->(L s).d<(L i).d:=λaB=>by have:=aF.out (i-s) (by omega) (by omega);rw [show s+(i-s)=i by omega] at this;exact this
   obtain ⟨l,P⟩:∃ l,K 1+JW L s 1 (i-s)=l:=⟨_,rfl⟩;obtain ⟨m,R⟩:∃ m,K 2+JW L s 2 (i-s)=m:=⟨_,rfl⟩;obtain ⟨v4,S⟩:∃ v4,K 4+JW L s 4 (i-s)=v4:=⟨_,rfl⟩;have al:Hid (∀ t,Qi (λx=>x=f) w t->Xc t b (C+i*5+3) (.slice (L i).ao (L i).an (L i).ac)/\b<t.heap.size):=Qa λt H=>⟨((T.out t H).1 i (by omega)).2,(T.out t H).2⟩;have a7:Hid (∀ t:World,t.rowIs f 131 9 (λj=>if j=4 then Xi ((v4:Int)+((L i).an:Int)) else if j=2 then Xi ((m:Int)+1) else if j=1 then Xi ((l:Int)+1) else Qbc (λj=>K j+JW L s j (i-s)) o p j)->Z0 t f (λj=>K j+JW L s j (i+1-s)) o p):=Qa λt aH=>aH.congr λj aY=>by
    unfold Qbc;dsimp only;by_cases X:j=4
    ·subst X;rw [if_pos rfl,if_pos (by omega),G.out,<- S];unfold QdF;simp;omega
    rw [if_neg X];by_cases Y:j=2
    ·subst Y;rw [if_pos rfl,if_pos (by omega),G.out,<- R];unfold QdF;simp;omega
    rw [if_neg Y];by_cases a0:j=1
    ·subst a0;rw [if_pos rfl,if_pos (by omega),G.out,<- P];unfold QdF;simp;omega
    rw [if_neg a0,G.out];unfold QdF;rw [if_neg a0,if_neg Y,if_neg X];rfl
   have D:Hid (Qbc (λj=>K j+JW L s j (i-s)) o p 1=Xi (l:Int)/\Qbc (λj=>K j+JW L s j (i-s)) o p 2=Xi (m:Int)/\Qbc (λj=>K j+JW L s j (i-s)) o p 4=Xi (v4:Int)):=Qa (by unfold Qbc;rw [<- P,<- R,<- S];exact ⟨rfl,rfl,rfl⟩);have aP:l<=2000000:=by omega
   have aQ:m<=2000000:=by omega
   have aR:v4<=2000000:=by omega
   clear E J aa P R S ay az aA av aw ax;replace k:Hid (wr.rowIs f 131 9 (Qbc (λj=>K j+JW L s j (i-s)) o p)):=k;generalize Qbc (λj=>K j+JW L s j (i-s)) o p=F at *;generalize (L i).ao=ao at *;generalize (L i).ac=ac at *;generalize (L i).an=an at *;have ak:i=s \/ (i≠s/\(L s).d<(L i).d):=by
    by_cases r:i=s
    ·exact .inl r
    exact .inr ⟨r,O r⟩
   clear O G;generalize (L i).d=aI at *;generalize (L s).d=aJ at *;rcases ak with r|⟨r,O⟩
   ·have aC:((i:Int)==(s:Int))=true:=by rw [r];simp
    have aD:=Qa r;clear r;go_wp2;go_big_quiet (fail);replace k:Hid ((wr.drewN nq).rowIs f 131 9 F):=k;replace h:Hid (Qi (λx=>x=f) w (wr.drewN nq)):=Qa ⟨h.out.os,h.out.tape,h.out.output,h.out.size,h.out.block⟩;clear ai W M I;generalize wr.drewN nq=v at *;have A:=k.out.cell (i:=1) (by omega);rw [D.out.1] at A;have a1:=k.out.frozen 1;have u:f<v.heap.size:=X6 A;go_wp2;go_still_tail 8,(by kernel_rfl);go_wp2_with fail;replace k:Hid ((v.setCell (Xa f 1) (Xi ((l:Int)+1))).drew.rowIs f 131 9 (λj=>if j=1 then Xi ((l:Int)+1) else F j)):=Qa (k.out.set 1 _);replace h:Hid (Qi (λx=>x=f) w (v.setCell (Xa f 1) (Xi ((l:Int)+1))).drew):=Qa (have g:=h.out.set (a:=(Xa f 1)) (.inl rfl) (Xi ((l:Int)+1));⟨g.os,g.tape,g.output,g.size,g.block⟩);clear A a1 u;generalize (v.setCell (Xa f 1) (Xi ((l:Int)+1))).drew=y at *;have z:=k.out.cell (i:=2) (by omega);simp only [show ¬ (2:Nat)=1 by omega,if_false] at z;rw [D.out.2.1] at z;have a2:=k.out.frozen 2;have u:f<y.heap.size:=X6 z;go_still_tail 8,(by kernel_rfl);go_wp2_with fail;replace k:Hid ((y.setCell (Xa f 2) (Xi ((m:Int)+1))).drew.rowIs f 131 9 (λj=>if j=2 then Xi ((m:Int)+1) else if j=1 then Xi ((l:Int)+1) else F j)):=Qa (k.out.set 2 _);replace h:Hid (Qi (λx=>x=f) w (y.setCell (Xa f 2) (Xi ((m:Int)+1))).drew):=Qa (have g:=h.out.set (a:=(Xa f 2)) (.inl rfl) (Xi ((m:Int)+1));⟨g.os,g.tape,g.output,g.size,g.block⟩);clear z a2 u;generalize (y.setCell (Xa f 2) (Xi ((m:Int)+1))).drew=a3 at *;have B:=k.out.cell (i:=4) (by omega);simp only [show ¬ (4:Nat)=1 by omega,show ¬ (4:Nat)=2 by omega,if_false] at B;rw [D.out.2.2] at B;have aK:=k.out.frozen 4;have u:f<a3.heap.size:=X6 B;obtain ⟨M,I⟩:=al.out _ h.out;go_still_tail 15,(by kernel_rfl);go_wp2_with fail;refine ⟨⟨i+1,by omega,by omega,by go_num,Qa (a7.out _ (k.out.set 4 _)),Qa (have g:=h.out.set (a:=(Xa f 4)) (.inl rfl) (Xi ((v4:Int)+(an:Int)));⟨g.os,g.tape,g.output,g.size,g.block⟩)⟩,by simp [intOf];omega⟩
   have aC:((i:Int)==(s:Int))=false:=Xd5.2 (by omega);have aD:=Qa r;clear r;go_wp2;go_big_quiet (fail);replace k:Hid ((wr.drewN nq).rowIs f 131 9 F):=k;replace h:Hid (Qi (λx=>x=f) w (wr.drewN nq)):=Qa ⟨h.out.os,h.out.tape,h.out.output,h.out.size,h.out.block⟩;clear ai W M I;generalize wr.drewN nq=v at *;have A:=k.out.cell (i:=1) (by omega);rw [D.out.1] at A;have a1:=k.out.frozen 1;have u:f<v.heap.size:=X6 A;go_wp2;go_still_tail 8,(by kernel_rfl);go_wp2_with fail;replace k:Hid ((v.setCell (Xa f 1) (Xi ((l:Int)+1))).drew.rowIs f 131 9 (λj=>if j=1 then Xi ((l:Int)+1) else F j)):=Qa (k.out.set 1 _);replace h:Hid (Qi (λx=>x=f) w (v.setCell (Xa f 1) (Xi ((l:Int)+1))).drew):=Qa (have g:=h.out.set (a:=(Xa f 1)) (.inl rfl) (Xi ((l:Int)+1));⟨g.os,g.tape,g.output,g.size,g.block⟩);clear A a1 u;generalize (v.setCell (Xa f 1) (Xi ((l:Int)+1))).drew=y at *;have z:=k.out.cell (i:=2) (by omega);simp only [show ¬ (2:Nat)=1 by omega,if_false] at z;rw [D.out.2.1] at z;have a2:=k.out.frozen 2;have u:f<y.heap.size:=X6 z;go_still_tail 8,(by kernel_rfl);go_wp2_with fail;replace k:Hid ((y.setCell (Xa f 2) (Xi ((m:Int)+1))).drew.rowIs f 131 9 (λj=>if j=2 then Xi ((m:Int)+1) else if j=1 then Xi ((l:Int)+1) else F j)):=Qa (k.out.set 2 _);replace h:Hid (Qi (λx=>x=f) w (y.setCell (Xa f 2) (Xi ((m:Int)+1))).drew):=Qa (have g:=h.out.set (a:=(Xa f 2)) (.inl rfl) (Xi ((m:Int)+1));⟨g.os,g.tape,g.output,g.size,g.block⟩);clear z a2 u;generalize (y.setCell (Xa f 2) (Xi ((m:Int)+1))).drew=a3 at *;have B:=k.out.cell (i:=4) (by omega);simp only [show ¬ (4:Nat)=1 by omega,show ¬ (4:Nat)=2 by omega,if_false] at B;rw [D.out.2.2] at B;have aK:=k.out.frozen 4;have u:f<a3.heap.size:=X6 B;obtain ⟨M,I⟩:=al.out _ h.out;go_still_tail 15,(by kernel_rfl);go_wp2_with fail;refine ⟨⟨i+1,by omega,by omega,by go_num,Qa (a7.out _ (k.out.set 4 _)),Qa (have g:=h.out.set (a:=(Xa f 4)) (.inl rfl) (Xi ((v4:Int)+(an:Int)));⟨g.os,g.tape,g.output,g.size,g.block⟩)⟩,by simp [intOf];omega⟩
  have e:i=s+n:=by omega
  have a4:=k.out;rw [e,show s+n-s=n by omega] at a4;have a8:Hid (∀ q,Z0 (wr.drewN q) f (λj=>K j+JW L s j n) o p/\Qi (λx=>x=f) w (wr.drewN q)):=Qa λq=>⟨a4,⟨h.out.os,h.out.tape,h.out.output,h.out.size,h.out.block⟩⟩;have aB:((i:Int)==(s:Int))=false:=Xd5.2 (by omega);have aZ:=Qa e;clear a4;by_cases ap:i<N
  ·have W:=(E i ap).1;have aj:(i:Int)<(N:Int):=by omega
   have aE:=aG.out (by omega);rw [<- e] at aE;have aL:¬ (L s).d<(L i).d:=by omega
   clear E e;generalize (L i).d=aI at *;generalize (L s).d=aJ at *;go_wp2;go_big_quiet (fail);go_wp2;refine bodyPost_end (results_none rfl _ _ _) rfl ?_;exact ⟨rfl,a8.out _⟩
  have aj:¬ (i:Int)<(N:Int):=by omega
  clear E e;go_wp2;go_big_quiet (fail);go_wp2;refine bodyPost_end (results_none rfl _ _ _) rfl ?_;exact ⟨rfl,a8.out _⟩
def QcF (nm vl:Nat->ByteArray) (x a:ByteArray):Nat->Bool
 | 0=>false
 | k+1=>QcF nm vl x a k||(((nm k).toList==x.toList)&&((vl k).toList==a.toList))
def QcS (nm:Nat->ByteArray) (x:ByteArray):Nat->Bool
 | 0=>false
 | k+1=>QcS nm x k||(x.toList==(nm k).toList)
def JA (nm vl:Nat->ByteArray) (n:Nat) (a b:Nat->ByteArray):Nat->Nat
 | 0=>0
 | i+1=>JA nm vl n a b i+(if QcF nm vl (a i) (b i) n=true then 0 else 1)
def Qaz (nm a:Nat->ByteArray) (b:Nat):Nat->Nat
 | 0=>0
 | k+1=>Qaz nm a b k+(if QcS a (nm k) b=true then 0 else 1)
theorem QgG (nm vl:Nat->ByteArray) (n:Nat) (a b:Nat->ByteArray):∀ i,JA nm vl n a b i<=i| 0=>X0| i+1=>by have:=QgG nm vl n a b i;rw [JA];split<;>omega
theorem Qi8 (nm a:Nat->ByteArray) (b:Nat):∀ i,Qaz nm a b i<=i| 0=>X0| i+1=>by have:=Qi8 nm a b i;rw [Qaz];split<;>omega
theorem QsO {b:ByteArray} (c:b.toList.isEmpty=true):b=⟨#[]⟩:=by have a:b.toList=[]:=isEmpty_iff.1 c;rw [ByteArray.toList_eq] at a;apply ByteArray.ext;exact Array.ext' a
theorem Qk2 {f:Nat->Value} (d:w.rowIs b t n f) (a:Below B w w') (c:b<B):w'.rowIs b t n f:=d.of_block (a.block b c)
theorem QhJ (b:j<7) (c:Z0 w cb K iv av) (a:∀ i,K' i=K i+if i=j then 1 else 0):Z0 (w.setCell (Xa cb j) (Xi ((K j:Nat)+1:Int))) cb K' iv av:=by
 refine (c.set j _).congr λi _=>?_;unfold Qbc;by_cases e:i=j
 ·subst e;rw [if_pos rfl,if_pos b,a,if_pos rfl];rfl
 rw [if_neg e,a,if_neg e];rfl
theorem QiB (b:Z0 w cb K iv av) (a:∀ j,K' j=K j):Z0 w cb K' iv av:=by have e:K'=K:=funext a;rw [e];exact b
theorem Z0.kind (b:Z0 w cb K iv av) (c:j<7):w.cell? (Xa cb j)=some (Xi (K j:Nat))/\w.frozen? (Xa cb j)=false/\cb<w.heap.size:=by have a:=b.cell (i:=j) (by omega);refine ⟨?_,b.frozen j,X6 a⟩;rw [a];unfold Qbc;rw [if_pos c]
theorem Qwi b (K c:Nat->Nat) k l (id par v:Int) (y f:ByteArray) (ao:Option Addr) (an ac:Nat) (d o:Int) (t g:ByteArray) (p:Option Addr) (q r:Nat) w (z:Z0 w b K k l) (D:∀ j,K j<=1000000) (A:y.toList.isEmpty=true) (i:∀ j,c j=K j+if j=6 then (if (f.toList==g.toList)=true then 0 else 1) else 0) : Xl 72 #[Xp b,.agg #[Xi id,Xi par,.string y,Xi v,.slice ao an ac,.string f],.agg #[Xi d,.string t,Xi o,.slice p q r,.string g]] w λe w'=>e=.returned (.tuple #[])/\Z0 w' b c k l/\Qi (λx=>x=b) w w':=by
 have S:=D 6;obtain ⟨E,F,s⟩:=z.kind (j:=6) (by omega);have J:y=⟨#[]⟩:=QsO A;subst J;have u:Hid (∀ m n,Z0 ((w.alloc m).alloc n) b K k l/\Qi (λx=>x=b) w ((w.alloc m).alloc n)):=Qa λm n=>by have G:Xb w ((w.alloc m).alloc n):=Xn;exact ⟨Qk2 z G s,Qi.of_below G⟩
 clear z D;cases H:(f.toList==g.toList) with
 | true =>
  have N:c=K:=funext λj=>by rw [i j,H,if_pos rfl];split<;>rfl
  subst N;clear i A;go_enter Tryz.func72,Tryz.ntmps72;go_wp2;refine bodyPost_ret (results_none rfl _ _ _) rfl ?_;exact ⟨rfl,u.out _ _⟩
 | false =>
  have O:Hid (∀ j,c j=K j+if j=6 then 1 else 0):=Qa λj=>by rw [i j,H];rfl
  clear i A;go_enter Tryz.func72,Tryz.ntmps72;go_wp2_with fail;obtain ⟨B,C⟩:=u.out (.cells #[Xi id,Xi par,Xo,Xi v,.slice ao an ac,.string f] 91) (.cells #[Xi d,.string t,Xi o,.slice p q r,.string g] 33);clear E F s u;generalize (w.alloc (.cells #[Xi id,Xi par,Xo,Xi v,.slice ao an ac,.string f] 91)).alloc (.cells #[Xi d,.string t,Xi o,.slice p q r,.string g] 33)=I at *;obtain ⟨E,F,s⟩:=B.kind (j:=6) (by omega);have L:=Qa B;have M:=Qa C;clear B C;have P:Hid (Z0 (I.setCell (Xa b 6) (Xi ((K 6:Nat)+1:Int))).drew b c k l):=Qa (QhJ (by omega) L.out O.out);have R:Hid (Qi (λx=>x=b) w (I.setCell (Xa b 6) (Xi ((K 6:Nat)+1:Int))).drew):=Qa (have h:=M.out.set (a:=(Xa b 6)) (.inl rfl) (Xi ((K 6:Nat)+1:Int));⟨h.os,h.tape,h.output,h.size,h.block⟩);go_still_tail 8,(by kernel_rfl);go_wp2;refine bodyPost_ret (results_none rfl _ _ _) rfl ?_;exact ⟨rfl,P.out,R.out⟩
theorem Qoc g (K ad:Nat->Nat) u v (id par az:Int) (a0 aA:ByteArray) ao (an ac:Nat) nm vl (d ar:Int) (t aB:ByteArray) I (f a3:Nat) c m w (ae:Z0 w g K u v) (aC:∀ j,K j<=1000000) (bc:an<=5) (bd:f<=5) (O:Zn w ao an nm vl) (P:Zn w I f c m) (au:∀ a1,ao=some a1->a1.block≠g) (av:0<f->∀ a1,I=some a1->a1.block≠g) (aD:a0.toList.isEmpty=false) (aw:∀ j,ad j=K j+(if j=4 then JA nm vl an c m f else 0)+(if j=5 then Qaz nm c f an else 0)) : Xl 72 #[Xp g,.agg #[Xi id,Xi par,.string a0,Xi az,.slice ao an ac,.string aA],.agg #[Xi d,.string t,Xi ar,.slice I f a3,.string aB]] w λe w'=>e=.returned (.tuple #[])/\Z0 w' g ad u v/\Qi (λx=>x=g) w w':=by
 have aE:=Qa aC;have aL:=Qa aw;have aM:=(ae.kind (j:=0) (by omega)).2.2;have bf:(a0.toList==([]:List UInt8))=false:=by cases e:a0.toList with| nil=>rw [e] at aD;cases aD| cons a l=>rfl
 have R:Hid (∀ h,Qi (λx=>x=g) w h->(∀ k,k<an->∃ b y,ao=some (Xa b y)/\b<h.heap.size/\h.cell? (Xa b (y+k*2))=some (.string (nm k))/\h.cell? (Xa b (y+k*2+1))=some (.string (vl k)))/\(∀ k,k<f->∃ b y,I=some (Xa b y)/\b<h.heap.size/\h.cell? (Xa b (y+k*2))=some (.string (c k))/\h.cell? (Xa b (y+k*2+1))=some (.string (m k)))):=Qa λh n=>by
  refine ⟨λk af=>?_,λk af=>?_⟩
  ·obtain ⟨b,y,e,a2,ag,A,_⟩:=O k af;have E:=n.block b a2 (au _ e);exact ⟨b,y,e,Xb4 a2 n.size,(Xk b _ E).trans ag,(Xk b _ E).trans A⟩
  obtain ⟨b,y,e,a2,ag,A,_⟩:=P k af;have E:=n.block b a2 (av (by omega) _ e);exact ⟨b,y,e,Xb4 a2 n.size,(Xk b _ E).trans ag,(Xk b _ E).trans A⟩
 have aF:=Qa ae;clear ae aC O P au av aw;go_enter Tryz.func72,Tryz.ntmps72;go_wp2_with fail;generalize W:(w.alloc (.cells #[Xi id,Xi par,.string a0,Xi az,.slice ao an ac,.string aA] 91)).alloc (.cells #[Xi d,.string t,Xi ar,.slice I f a3,.string aB] 33)=w2;have C:=Xu W;have a6:Hid (∀ h,Qi (λx=>x=g) w2 h->h.cell? (Xa w.heap.size 4)=some (.slice ao an ac)/\h.cell? (Xa (w.heap.size+1) 3)=some (.slice I f a3)/\w.heap.size<h.heap.size/\w.heap.size+1<h.heap.size/\Qi (λx=>x=g) w h):=Qa λh n=>by
  have aZ:=Xx W 4 (.slice ao an ac) rfl;have b0:=Xy W 3 (.slice I f a3) rfl;have b1:w.heap.size+1<w2.heap.size:=by rw [<- W];simp
  have bg:=n.size;refine ⟨(Xk w.heap.size _ (n.block _ (by show w.heap.size<_;omega) (λe=>by have:w.heap.size=g:=e;omega))).trans aZ,(Xk (w.heap.size+1) _ (n.block _ b1 (λe=>by have:w.heap.size+1=g:=e;omega))).trans b0,by omega,by omega,?_⟩;exact ⟨n.os.trans C.os,n.tape.trans C.tape,n.output.trans C.output,Xb6 C.size n.size,λb E b2=>(n.block b (Xb4 E C.size) b2).trans (C.block b E)⟩
 have ax:Hid (Z0 w2 g K u v):=Qa (Qk2 aF.out C aM);clear W C aF;go_loopw [6,7,8] (λM _ _ wr=>∃ i:Nat,i<=f/\M=Xi (i:Int)/\Hid (Z0 wr g (λj=>K j+if j=4 then JA nm vl an c m i else 0) u v)/\Hid (Qi (λx=>x=g) w2 wr)) (λM _ _ _=>f-(intOf M).toNat);·exact ⟨0,X3,rfl,Qa (QiB ax.out λj=>by split<;>rfl),Qa (Qi.of_below X4)⟩
 case round =>
  obtain ⟨i,aN,rfl,F,G⟩:=hrel;clear ax;obtain ⟨H,q3,S,T,p⟩:=a6.out _ G.out;by_cases a4:i<f
  ·have b3:(0:Int)<=(i:Int):=by omega
   have b4:(i:Int)<(f:Int):=by omega
   obtain ⟨a7,ah,U,_⟩:=((R.out _ p).2 i a4);have aO:Hid (∀ h,Qi (λx=>x=g) w h->a7<h.heap.size/\h.cell? (Xa a7 (ah+i*2))=some (.string (c i))/\h.cell? (Xa a7 (ah+i*2+1))=some (.string (m i))):=Qa λh n=>by obtain ⟨b5,b6,e',O,P,aG⟩:=(R.out h n).2 i a4;rw [U] at e';cases e';exact ⟨O,P,aG⟩
   have aP:=QgG nm vl an c m i;have bh:=aE.out 4;have X:Hid (JA nm vl an c m (i+1)=JA nm vl an c m i+(if QcF nm vl (c i) (m i) an=true then 0 else 1)):=Qa rfl;have aQ:=Qa U;clear p U;go_wp2;go_loopw [7,8] (λai N h=>∃ k:Nat,k<=an/\N=Xi (k:Int)/\ai=.bool (QcF nm vl (c i) (m i) k)/\Hid (Z0 h g (λj=>K j+if j=4 then JA nm vl an c m i else 0) u v)/\Hid (Qi (λx=>x=g) w2 h)) (λ_ N _=>an-(intOf N).toNat);·exact ⟨0,X3,rfl,rfl,F,G⟩
   case round =>
    obtain ⟨k,aR,rfl,rfl,B,o⟩:=hrel;clear F G H q3 S T;obtain ⟨H,q3,S,T,p⟩:=a6.out _ o.out;by_cases z:k<an
    ·obtain ⟨aj,aH,V,aS,b7,bl⟩:=(R.out _ p).1 k z;obtain ⟨aT,b8,aI⟩:=aO.out _ p;have b9:(0:Int)<=(k:Int):=by omega
     have ak:(k:Int)<(an:Int):=by omega
     have D:Hid (QcF nm vl (c i) (m i) (k+1)=(QcF nm vl (c i) (m i) k||(((nm k).toList==(c i).toList)&&((vl k).toList==(m i).toList)))):=Qa rfl;have s:Hid (∀ q,Z0 (wr.drewN q) g (λj=>K j+if j=4 then JA nm vl an c m i else 0) u v/\Qi (λx=>x=g) w2 (wr.drewN q)):=Qa λq=>⟨B.out,⟨o.out.os,o.out.tape,o.out.output,o.out.size,o.out.block⟩⟩;rw [V] at H;rw [aQ.out] at q3;clear V p;generalize QcF nm vl (c i) (m i) k=a9 at *;generalize nm k=al at *;generalize vl k=u1 at *;generalize c i=aa at *;generalize m i=u2 at *;cases a9 with| true =>go_wp2;go_big_quiet (fail);go_wp2_with fail;refine ⟨⟨k+1,z,by go_num,by rw [D.out];rfl,Qa (s.out _).1,Qa (s.out _).2⟩,by simp [intOf];omega⟩| false =>cases A:(al.toList==aa.toList) with| false =>go_wp2;go_big_quiet (fail);go_wp2_with fail;refine ⟨⟨k+1,z,by go_num,by rw [D.out,A];rfl,Qa (s.out _).1,Qa (s.out _).2⟩,by simp [intOf];omega⟩| true =>cases aJ:(u1.toList==u2.toList) with| false =>go_wp2;go_big_quiet (fail);go_wp2_with fail;refine ⟨⟨k+1,z,by go_num,by rw [D.out,A,aJ];rfl,Qa (s.out _).1,Qa (s.out _).2⟩,by simp [intOf];omega⟩| true =>go_wp2;go_big_quiet (fail);go_wp2_with fail;refine ⟨⟨k+1,z,by go_num,by rw [D.out,A,aJ];rfl,Qa (s.out _).1,Qa (s.out _).2⟩,by simp [intOf];omega⟩
    have e:k=an:=by omega
    have ak:¬ (k:Int)<(an:Int):=by omega
    rw [e];clear e;cases Y:QcF nm vl (c i) (m i) an with
    | true =>have J:Hid (JA nm vl an c m (i+1)=JA nm vl an c m i):=Qa (by rw [X.out,Y];rfl);go_wp2_with fail;refine ⟨⟨i+1,a4,by go_num,Qa (by rw [J.out];exact B.out),o⟩,by simp [intOf];omega⟩
    | false =>
     have J:Hid (∀ j,(λj=>K j+if j=4 then JA nm vl an c m (i+1) else 0) j=(λj=>K j+if j=4 then JA nm vl an c m i else 0) j+if j=4 then 1 else 0):=Qa λj=>by
      dsimp only;rw [X.out,Y];by_cases e:j=4
      ·rw [if_pos e,if_pos e,if_pos e];rfl
      rw [if_neg e,if_neg e,if_neg e]
     obtain ⟨v4,L⟩:∃ v4,v4=K 4+JA nm vl an c m i:=⟨_,rfl⟩;have aU:v4<=2000000:=by omega
     obtain ⟨a8,ba,aV⟩:=B.out.kind (j:=4) (by omega);have ap:Hid (Z0 (wr.setCell (Xa g 4) (Xi ((v4:Int)+1))).drew g (λj=>K j+if j=4 then JA nm vl an c m (i+1) else 0) u v):=Qa (by have r:=QhJ (j:=4) (by omega) B.out J.out;rw [L];exact r);have aq:Hid (Qi (λx=>x=g) w2 (wr.setCell (Xa g 4) (Xi ((v4:Int)+1))).drew):=Qa (have r:=o.out.set (a:=(Xa g 4)) (.inl rfl) (Xi ((v4:Int)+1));⟨r.os,r.tape,r.output,r.size,r.block⟩);replace a8:wr.cell? (Xa g 4)=some (Xi (v4:Int)):=by rw [a8,L];rfl
     have bi:=Qa L;clear L;go_wp2;go_still_tail 8,(by kernel_rfl);go_wp2_with fail;refine ⟨⟨i+1,a4,by go_num,ap,aq⟩,by simp [intOf];omega⟩
  have e:i=f:=by omega
  have b4:¬ (i:Int)<(f:Int):=by omega
  have ay:Hid (Z0 wr g (λj=>K j+(if j=4 then JA nm vl an c m f else 0)+(if j=5 then Qaz nm c f 0 else 0)) u v):=Qa (QiB F.out λj=>by rw [e];show K j+_+(if j=5 then 0 else 0)=K j+_;rw [ite_self,Nat.add_zero]);clear p e F;go_wp2;go_loopw [9,10,11] (λN _ _ h=>∃ k:Nat,k<=an/\N=Xi (k:Int)/\Hid (Z0 h g (λj=>K j+(if j=4 then JA nm vl an c m f else 0)+(if j=5 then Qaz nm c f k else 0)) u v)/\Hid (Qi (λx=>x=g) w2 h)) (λN _ _ _=>an-(intOf N).toNat);·exact ⟨0,X3,rfl,ay,G⟩
  case round =>
   obtain ⟨k,aR,rfl,F,G⟩:=hrel;clear ay H q3 S T;obtain ⟨H,q3,S,T,p⟩:=a6.out _ G.out;by_cases z:k<an
   ·have b9:(0:Int)<=(k:Int):=by omega
    have ak:(k:Int)<(an:Int):=by omega
    obtain ⟨aj,aH,V,_⟩:=((R.out _ p).1 k z);have aW:Hid (∀ h,Qi (λx=>x=g) w h->aj<h.heap.size/\h.cell? (Xa aj (aH+k*2))=some (.string (nm k))):=Qa λh n=>by obtain ⟨b5,b6,e',O,P,aG⟩:=(R.out h n).1 k z;rw [V] at e';cases e';exact ⟨O,P⟩
    have aP:=QgG nm vl an c m f;have bj:=Qi8 nm c f k;have bk:=aE.out 5;have X:Hid (Qaz nm c f (k+1)=Qaz nm c f k+(if QcS c (nm k) f=true then 0 else 1)):=Qa rfl;have aX:=Qa V;clear p V;go_wp2;go_loopw [10,11] (λai M h=>∃ i:Nat,i<=f/\M=Xi (i:Int)/\ai=.bool (QcS c (nm k) i)/\Hid (Z0 h g (λj=>K j+(if j=4 then JA nm vl an c m f else 0)+(if j=5 then Qaz nm c f k else 0)) u v)/\Hid (Qi (λx=>x=g) w2 h)) (λ_ M _=>f-(intOf M).toNat);·exact ⟨0,X3,rfl,rfl,F,G⟩
    case round =>
     obtain ⟨i,aN,rfl,rfl,B,o⟩:=hrel;clear F G H q3 S T;obtain ⟨H,q3,S,T,p⟩:=a6.out _ o.out;by_cases a5:i<f
     ·obtain ⟨a7,ah,U,aT,b8,aI⟩:=(R.out _ p).2 i a5;obtain ⟨aS,b7⟩:=aW.out _ p;have b3:(0:Int)<=(i:Int):=by omega
      have bb:(i:Int)<(f:Int):=by omega
      have D:Hid (QcS c (nm k) (i+1)=(QcS c (nm k) i||((nm k).toList==(c i).toList))):=Qa rfl;have s:Hid (∀ q,Z0 (wr.drewN q) g (λj=>K j+(if j=4 then JA nm vl an c m f else 0)+(if j=5 then Qaz nm c f k else 0)) u v/\Qi (λx=>x=g) w2 (wr.drewN q)):=Qa λq=>⟨B.out,⟨o.out.os,o.out.tape,o.out.output,o.out.size,o.out.block⟩⟩;rw [U] at q3;rw [aX.out] at H;clear U p aI;generalize QcS c (nm k) i=a9 at *;generalize nm k=al at *;generalize c i=aa at *;cases a9 with| true =>go_wp2;go_big_quiet (fail);go_wp2_with fail;refine ⟨⟨i+1,a5,by go_num,by rw [D.out];rfl,Qa (s.out _).1,Qa (s.out _).2⟩,by simp [intOf];omega⟩| false =>cases A:(al.toList==aa.toList) with| false =>go_wp2;go_big_quiet (fail);go_wp2_with fail;refine ⟨⟨i+1,a5,by go_num,by rw [D.out,A];rfl,Qa (s.out _).1,Qa (s.out _).2⟩,by simp [intOf];omega⟩| true =>go_wp2;go_big_quiet (fail);go_wp2_with fail;refine ⟨⟨i+1,a5,by go_num,by rw [D.out,A];rfl,Qa (s.out _).1,Qa (s.out _).2⟩,by simp [intOf];omega⟩
     have e:i=f:=by omega
     have bb:¬ (i:Int)<(f:Int):=by omega
     rw [e];clear e;cases Y:QcS c (nm k) f with
     | true =>have J:Hid (Qaz nm c f (k+1)=Qaz nm c f k):=Qa (by rw [X.out,Y];rfl);go_wp2_with fail;refine ⟨⟨k+1,z,by go_num,Qa (by rw [J.out];exact B.out),o⟩,by simp [intOf];omega⟩
     | false =>
      have J:Hid (∀ j,(λj=>K j+(if j=4 then JA nm vl an c m f else 0)+(if j=5 then Qaz nm c f (k+1) else 0)) j=(λj=>K j+(if j=4 then JA nm vl an c m f else 0)+(if j=5 then Qaz nm c f k else 0)) j+if j=5 then 1 else 0):=Qa λj=>by
       dsimp only;rw [X.out,Y];by_cases e:j=5
       ·rw [if_pos e,if_pos e,if_pos e];rfl
       rw [if_neg e,if_neg e,if_neg e]
      obtain ⟨v4,L⟩:∃ v4,v4=K 5+Qaz nm c f k:=⟨_,rfl⟩;have aU:v4<=2000000:=by omega
      obtain ⟨a8,ba,aV⟩:=B.out.kind (j:=5) (by omega);have ab:K 5+(if (5:Nat)=4 then JA nm vl an c m f else 0)+(if (5:Nat)=5 then Qaz nm c f k else 0)=v4:=by rw [L];rfl
      have ap:Hid (Z0 (wr.setCell (Xa g 5) (Xi ((v4:Int)+1))).drew g (λj=>K j+(if j=4 then JA nm vl an c m f else 0)+(if j=5 then Qaz nm c f (k+1) else 0)) u v):=Qa (by have r:=QhJ (j:=5) (by omega) B.out J.out;rw [ab] at r;exact r);have aq:Hid (Qi (λx=>x=g) w2 (wr.setCell (Xa g 5) (Xi ((v4:Int)+1))).drew):=Qa (have r:=o.out.set (a:=(Xa g 5)) (.inl rfl) (Xi ((v4:Int)+1));⟨r.os,r.tape,r.output,r.size,r.block⟩);rw [ab] at a8;clear L ab;go_wp2;go_still_tail 8,(by kernel_rfl);go_wp2_with fail;refine ⟨⟨k+1,z,by go_num,ap,aq⟩,by simp [intOf];omega⟩
   have e:k=an:=by omega
   have ak:¬ (k:Int)<(an:Int):=by omega
   have aK:Hid (Z0 wr g ad u v):=Qa (QiB F.out λj=>by rw [aL.out,e]);have aY:=Qa p;clear e p;go_wp2;refine bodyPost_end (results_none rfl _ _ _) rfl ?_;exact ⟨rfl,aK.out,aY.out⟩
structure Zv (w:World) (cb:Nat) (K:Nat->Nat) (I A:List Int) (iv av:Value):Prop where
 cnt:Z0 w cb K iv av
 irow:w.ownsRow 0 3 1 iv I.length (Qs I)
 arow:w.ownsRow 0 3 1 av A.length (Qs A)
 ic:iv.ownBlock≠some cb
 ac:av.ownBlock≠some cb
 ia:iv.ownBlock=none \/ iv.ownBlock≠av.ownBlock
def ZY (a:Nat) (b c:Value) (x:Nat):Prop:=x=a \/ b.ownBlock=some x \/ c.ownBlock=some x
theorem Zv.lt {w:World} {c:Nat} {K:Nat->Nat} {g A:List Int} {d f:Value} (a:Zv w c K g A d f):c<w.heap.size/\(∀ b,d.ownBlock=some b->b<w.heap.size)/\∀ b,f.ownBlock=some b->b<w.heap.size:=⟨(a.cnt.kind (j:=0) (by omega)).2.2,λb e=>(a.irow.lt b e).2,λb e=>(a.arow.lt b e).2⟩
theorem Zv.keep {A:List Int} (a:Zv w cb K I A iv av) (c:∀ b,ZY cb iv av b->w'.heap[b]?=w.heap[b]?):Zv w' cb K I A iv av := ⟨a.cnt.of_block (c cb (.inl rfl)),Q8 a.irow λb e=>c b (.inr (.inl e)),Q8 a.arow λb e=>c b (.inr (.inr e)),a.ic,a.ac,a.ia⟩
theorem Zv.below {A:List Int} (a:Zv w cb K I A iv av) (c:Xb w w'):Zv w' cb K I A iv av := a.keep λb e=>c.block b (by
 obtain ⟨d,f,g⟩:=a.lt;rcases e with e|e|e
 ·rw [e];exact d
 ·exact f b e
 exact g b e)
theorem QeJ (a:ZV w1 w2 v v') (c:b<w1.heap.size) (d:v.ownBlock≠some b):w2.heap[b]?=w1.heap[b]?:=a.by.block b c (λe=>d e.symm)
theorem QuL {A:List Int} {x:Int} (c:Zv w cb K I A iv av) (f:Xb w w1) (r:w2.ownsRow 0 3 1 v' (I.length+1) (Qs I++[Xi x])) (m:ZV w1 w2 iv v') : Zv (w2.setCell (Xa cb 7) v') cb K (I++[x]) A v' av/\Qi (ZY cb iv av) w (w2.setCell (Xa cb 7) v')/\∀ b,v'.ownBlock=some b->iv.ownBlock=some b \/ w.heap.size<=b:=by
 obtain ⟨s,u,p⟩:=c.lt;have k:=f.size;have n:∀ b,v'.ownBlock=some b->iv.ownBlock=some b \/ w.heap.size<=b:=λb e=>by
  rcases m.at with a|a
  ·exact .inl (by rw [<- a];exact e)
  rw [a] at e;cases e;exact .inr k
 have o:v'.ownBlock≠some cb:=λe=>by
  rcases n cb e with a|a
  ·exact c.ic a
  omega
 have l:∀ b,b<w.heap.size->iv.ownBlock≠some b->w2.heap[b]?=w.heap[b]?:=λb h i=>(QeJ m (Xb4 h k) i).trans (f.block b h);refine ⟨⟨?_,?_,?_,o,c.ac,?_⟩,?_,n⟩
 ·have t:Z0 w2 cb K iv av:=c.cnt.of_block (l cb s c.ic);refine (t.set 7 v').congr λj v=>?_;unfold Qbc;by_cases e:j=7
  ·rw [if_pos e,if_neg (by omega),if_pos e]
  rw [if_neg e,if_neg e];by_cases a:j<7
  ·rw [if_pos a,if_pos a]
  rw [if_neg a,if_neg a,if_neg e]
 ·rw [QcR,length_append];exact Q8 r λb e=>X5 (λx=>by have x:b=cb:=x;rw [x] at e;exact o e)
 ·refine Q8 c.arow λb e=>?_;rw [X5 (λx=>by have x:b=cb:=x;rw [x] at e;exact c.ac e)];exact l b (p b e) λa=>by
   rcases c.ia with d|d
   ·rw [d] at a;cases a
   exact d (a.trans e.symm)
 ·cases q:v'.ownBlock with
  | none=>exact .inl rfl
  | some b =>
   right;intro e;rcases n b q with a|a
   ·rcases c.ia with d|d
    ·rw [d] at a;cases a
    exact d (a.trans e)
   have:=p b e.symm;omega
 have g:=m.by;exact ⟨g.os.trans f.os,g.tape.trans f.tape,g.output.trans f.output,by rw [QJ];exact Xb6 k g.size,λb h i=>by rw [X5 (λx=>i (.inl x))];exact l b h λe=>i (.inr (.inl e))⟩
theorem QsX {A:List Int} {x:Int} (c:Zv w cb K I A iv av) (f:Xb w w1) (r:w2.ownsRow 0 3 1 v' (A.length+1) (Qs A++[Xi x])) (n:ZV w1 w2 av v') : Zv (w2.setCell (Xa cb 8) v') cb K I (A++[x]) iv v'/\Qi (ZY cb iv av) w (w2.setCell (Xa cb 8) v')/\∀ b,v'.ownBlock=some b->av.ownBlock=some b \/ w.heap.size<=b:=by
 obtain ⟨s,q,u⟩:=c.lt;have l:=f.size;have o:∀ b,v'.ownBlock=some b->av.ownBlock=some b \/ w.heap.size<=b:=λb e=>by
  rcases n.at with a|a
  ·exact .inl (by rw [<- a];exact e)
  rw [a] at e;cases e;exact .inr l
 have p:v'.ownBlock≠some cb:=λe=>by
  rcases o cb e with a|a
  ·exact c.ac a
  omega
 have m:∀ b,b<w.heap.size->av.ownBlock≠some b->w2.heap[b]?=w.heap[b]?:=λb h k=>(QeJ n (Xb4 h l) k).trans (f.block b h);refine ⟨⟨?_,?_,?_,c.ic,p,?_⟩,?_,o⟩
 ·have t:Z0 w2 cb K iv av:=c.cnt.of_block (m cb s c.ac);refine (t.set 8 v').congr λj v=>?_;unfold Qbc;by_cases e:j=8
  ·rw [if_pos e,if_neg (by omega),if_neg (by omega)]
  rw [if_neg e];by_cases a:j<7
  ·rw [if_pos a,if_pos a]
  rw [if_neg a,if_neg a,if_pos (by omega),if_pos (by omega)]
 ·refine Q8 c.irow λb e=>?_;rw [X5 (λx=>by have x:b=cb:=x;rw [x] at e;exact c.ic e)];exact m b (q b e) λa=>by
   rcases c.ia with d|d
   ·rw [d] at e;cases e
   exact d (e.trans a.symm)
 ·rw [QcR,length_append];exact Q8 r λb e=>X5 (λx=>by have x:b=cb:=x;rw [x] at e;exact p e)
 ·cases i:iv.ownBlock with
  | none=>exact .inl rfl
  | some b =>
   right;intro e;rcases o b e.symm with a|a
   ·rcases c.ia with d|d
    ·rw [d] at i;cases i
    exact d (i.trans a.symm)
   have:=q b i;omega
 have g:=n.by;exact ⟨g.os.trans f.os,g.tape.trans f.tape,g.output.trans f.output,by rw [QJ];exact Xb6 l g.size,λb h k=>by rw [X5 (λx=>k (.inl x))];exact m b h λe=>k (.inr (.inr e))⟩
structure Q7 (cb:Nat) (iv av:Value) (w:World) (iv' av':Value) (w':World):Prop where
 touch:Qi (ZY cb iv av) w w'
 own:∀ x,ZY cb iv' av' x->ZY cb iv av x \/ w.heap.size<=x
theorem Q7.trans {c:Nat} {i j d f g h:Value} {w w1 w2:World} (a:Q7 c i j w d f w1) (k:Q7 c d f w1 g h w2):Q7 c i j w g h w2 := ⟨a.touch.trans (k.touch.mono λb _ e=>a.own b e),λx e=>by
 rcases k.own x e with e|e
 ·exact a.own x e
 exact .inr (Xb6 a.touch.size e)⟩
theorem Q7.one (a:Qi (λx=>x=cb) w w'):Q7 cb iv av w iv av w':=⟨a.mono λ_ _ e=>.inl e,λ_ e=>.inl e⟩
theorem Q7.of (a:Xb w w'):Q7 cb iv av w iv av w':=⟨.of_below a,λ_ e=>.inl e⟩
theorem Q7.ids (c:Qi (ZY cb iv av) w w') (a:∀ b,v'.ownBlock=some b->iv.ownBlock=some b \/ w.heap.size<=b):Q7 cb iv av w v' av w':=⟨c,λx e=>by
 rcases e with e|e|e
 ·exact .inl (.inl e)
 ·rcases a x e with e|e
  ·exact .inl (.inr (.inl e))
  exact .inr e
 exact .inl (.inr (.inr e))⟩
theorem Q7.ats (c:Qi (ZY cb iv av) w w') (a:∀ b,v'.ownBlock=some b->av.ownBlock=some b \/ w.heap.size<=b):Q7 cb iv av w iv v' w':=⟨c,λx e=>by
 rcases e with e|e|e
 ·exact .inl (.inl e)
 ·exact .inl (.inr (.inl e))
 rcases a x e with e|e
 ·exact .inl (.inr (.inr e))
 exact .inr e⟩
theorem Q7.below {f:Value} {d:World} (c:Q7 cb iv av w f av' w') (a:Xb d w) (g:∀ x,ZY cb iv av x->d.heap.size<=x):Xb d w'/\∀ x,ZY cb f av' x->d.heap.size<=x := ⟨⟨c.touch.os.trans a.os,c.touch.tape.trans a.tape,c.touch.output.trans a.output,Xb6 a.size c.touch.size,λb h=>(c.touch.block b (Xb4 h a.size) λe=>by have:=g b e;omega).trans (a.block b h)⟩,λx e=>by
 rcases c.own x e with e|e
 ·exact g x e
 exact Xb6 a.size e⟩
theorem Q7.keeps {b:Value} (a:Q7 cb iv av w b av' w') {x:Nat} (c:x<w.heap.size) (d:¬ ZY cb iv av x):w'.heap[x]?=w.heap[x]?/\¬ ZY cb b av' x/\x<w'.heap.size := ⟨a.touch.block x c d,λe=>by
 rcases a.own x e with e|e
 ·exact d e
 omega,Xb4 c a.touch.size⟩
theorem Zv.count {A:List Int} (a:Zv w cb K I A iv av) (d:Z0 w' cb K' iv av) (c:Qi (λx=>x=cb) w w'):Zv w' cb K' I A iv av:=by obtain ⟨_,f,g⟩:=a.lt;exact ⟨d,Q8 a.irow λb e=>c.block b (f b e) (λx=>a.ic (x▸e)),Q8 a.arow λb e=>c.block b (g b e) (λx=>a.ac (x▸e)),a.ic,a.ac,a.ia⟩
theorem QmS (nm vl:Nat->ByteArray) (x b:ByteArray):∀ k,QcF nm vl x b k=JN nm vl x b k| 0=>rfl| k+1=>by rw [QcF,QmS nm vl x b k];unfold JN;rw [range_succ,any_append];simp only [any_cons,any_nil,Bool.or_false];rw [BEq.comm (a:=(nm k).toList),BEq.comm (a:=(vl k).toList)]
theorem Qnk (nm:Nat->ByteArray) (x:ByteArray):∀ k,QcS nm x k=JL nm x k| 0=>rfl| k+1=>by rw [QcS,Qnk nm x k];unfold JL;rw [range_succ,any_append];simp only [any_cons,any_nil,Bool.or_false];rw [BEq.comm (a:=x.toList)]
theorem Qik (nm vl:Nat->ByteArray) (n:Nat) (a b:Nat->ByteArray):∀ k,JA nm vl n a b k=Qcc nm vl n a b k| 0=>rfl| k+1=>by rw [JA,Qcc,Qik nm vl n a b k,QmS]
theorem Qia (nm a:Nat->ByteArray) (b:Nat):∀ k,Qaz nm a b k=QcL nm a b k| 0=>rfl| k+1=>by rw [Qaz,QcL,Qia nm a b k,Qnk]
theorem QhK (L:Nat->Qd) (s:Nat) (j:Nat):∀ k,JW L s j k=Qao L s (j:Int) k
 | 0=>rfl
 | k+1=>by
  rw [JW,Qao,QhK L s j k];unfold QdF Qga;have a:((j:Int)=1)=(j=1):=by apply propext;omega
  have b:((j:Int)=2)=(j=2):=by apply propext;omega
  have c:((j:Int)=4)=(j=4):=by apply propext;omega
  simp only [a,b,c]
theorem Zn.old {nm:Nat->ByteArray} (c:Zn w ao n nm vl) (a:w.heap.size<=B) (b:Below B w w'):Zn w' ao n nm vl:=c.below (b.mono a)
theorem Qpw (S:Nat->Prop) (n:World) (x:RN) (h:x.Ok S n) (m:Qd) (q:m.Ok n) (z:m.an<=5) (ks:List Int) a K y A c f w (r:Xb n w) (i:Zv w a K y A c f) (B:∀ x,ZY a c f x->n.heap.size<=x) (s:∀ j,K j<=1000000) : Xl 72 #[Xp a,.agg #[Xi x.id,Xi x.par,.string x.tag,Xi x.key,.slice x.ao x.an x.ac,.string x.text],.agg #[Xi m.d,.string m.t,Xi m.k,.slice m.ao m.an m.ac,.string m.x]] w λe w'=>e=.returned (.tuple #[])/\Zv w' a (λj=>K j+Qa4 ⟨x.key,x.tag,x.text,x.ats,ks⟩ m (j:Int)) y A c f/\Q7 a c f w c f w':=by
 have G:=B a (.inl rfl);cases l:x.tag.toList.isEmpty with
 | true =>
  refine (Qwi a K (λj=>K j+Qa4 ⟨x.key,x.tag,x.text,x.ats,ks⟩ m (j:Int)) c f x.id x.par x.key x.tag x.text x.ao x.an x.ac m.d m.k m.t m.x m.ao m.an m.ac w i.cnt s l (λj=>?_)).mono ?_
  ·unfold Qa4;rw [if_pos l];have e:((j:Int)=6)=(j=6):=by apply propext;omega
   simp only [e]
  rintro e w' ⟨o,p,g⟩;exact ⟨o,i.count p g,.one g⟩
 | false =>
  refine (Qoc a K (λj=>K j+Qa4 ⟨x.key,x.tag,x.text,x.ats,ks⟩ m (j:Int)) c f x.id x.par x.key x.tag x.text x.ao x.an x.ac (QP x.ats) (Q6 x.ats) m.d m.k m.t m.x m.ao m.an m.ac m.nm m.vl w i.cnt s h.few z (h.at'.below r) (q.at'.below r) (λu e v=>?_) (λC u e v=>?_) l (λj=>?_)).mono ?_
  ·have:=(h.own u e).2;omega
  ·obtain ⟨b,I,D,H,_⟩:=q.at' 0 C;rw [D] at e;cases e;simp only at v;omega
  ·unfold Qa4;rw [if_neg (by rw [l];exact Bool.false_ne_true),Qik,Qia,h.an];have E:((j:Int)=4)=(j=4):=by apply propext;omega
   have F:((j:Int)=5)=(j=5):=by apply propext;omega
   simp only [E,F,Nat.add_assoc]
  rintro e w' ⟨o,p,g⟩;exact ⟨o,i.count p g,.one g⟩
end Go.Proofs.YtobgcaemnpkbmaaGreat
