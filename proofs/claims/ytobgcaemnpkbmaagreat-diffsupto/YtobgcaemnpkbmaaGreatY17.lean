import Derived.Test.YtobgcaemnpkbmaaGreatY16
import Derived.Lib.SliceRun
namespace Go.Proofs.YtobgcaemnpkbmaaGreat
set_option maxRecDepth 100000
set_option maxHeartbeats 8000000
open Go.RowKit List
variable {id last:Int} {P:List Qh} {B WB b c j k n o:Nat} {vl:Nat->ByteArray} {ao:Option Addr} {pv:Value} {w w':World}
theorem Qpe (A:Nat) (nm vl x:ByteArray) (w:World) (a:Xc w A 0 (.string x)) (b:A<w.heap.size) : Xl 110 #[.agg #[.string nm,.string vl],Xp A] w λe w'=>e=.returned (.bool (nm.toList==x.toList))/\Xb w w':=by go_enter Tryz.func110,Tryz.ntmps110;go_wp2;go_ret;exact ⟨rfl,Xd⟩
def JL (nm:Nat->ByteArray) (x:ByteArray) (k:Nat):Bool:=(List.range k).any λj=>(nm j).toList==x.toList
theorem Qq5 (nm:Nat->ByteArray) (x:ByteArray) (k:Nat):JL nm x (k+1)=(JL nm x k||((nm k).toList==x.toList)):=by unfold JL;rw [range_succ,any_append];simp
theorem Qpx {nm:Nat->ByteArray} {x:ByteArray} (a:j<n) (b:((nm j).toList==x.toList)=true):JL nm x n=true:=by unfold JL;exact any_eq_true.2 ⟨j,Xa6.2 a,b⟩
def JN (nm vl:Nat->ByteArray) (x a:ByteArray) (k:Nat):Bool:=(List.range k).any λj=>(x.toList==(nm j).toList)&&(a.toList==(vl j).toList)
theorem QwQ (nm vl:Nat->ByteArray) (x a:ByteArray) (k:Nat):JN nm vl x a (k+1)=(JN nm vl x a k||((x.toList==(nm k).toList)&&(a.toList==(vl k).toList))):=by unfold JN;rw [range_succ,any_append];simp
theorem Qpf {nm:Nat->ByteArray} {x a:ByteArray} (b:j<n) (c:((x.toList==(nm j).toList)&&(a.toList==(vl j).toList))=true):JN nm vl x a n=true:=by unfold JN;exact any_eq_true.2 ⟨j,Xa6.2 b,c⟩
theorem QrI ao (n c:Nat) nm vl (A:Nat) (x:ByteArray) w (C:n<=1000000) (p:Zn w ao n nm vl) (u:Xc w A 0 (.string x)) (o:A<w.heap.size) : Xl 126 #[.slice ao n c,.func (.func 110) #[] #[Xp A]] w λe w'=>(∃ r:Int,e=.returned (Xi r)/\decide (0<=r)=JL nm x n)/\Xb w w':=by
 have B:=Qa p;clear p;go_enter Tryz.func126,Tryz.ntmps126;go_wp2;go_loopw [5,8] (λ_ i wr=>∃ j:Nat,j<=n/\i=Xi j/\Hid (JL nm x j=false)/\Hid (Xb w wr)) (λ_ i _=>n-(intOf i).toNat);·exact ⟨0,X3,rfl,Qa rfl,Qa X4⟩
 case round =>
  obtain ⟨j,D,rfl,k,a⟩:=hrel;by_cases l:j<n
  ·obtain ⟨b,q,rfl,m,g,h,_,_⟩:=B.out j l;have E:=(Xh a.out b (q+j*2) m).trans g;have F:=(Xh a.out b (q+j*2+1) m).trans h;have s:(j:Int)<(n:Int):=by omega
   have f:=Qa (Qpe A (nm j) (vl j) x wr ((Xh a.out A 0 o).trans u) (Xb4 o a.out.size));cases e:((nm j).toList==x.toList) with
   | true =>rw [e] at f;have v:=Qa (Qpx l e);clear g h;go_wp2_with (first|(go_at_call 110;refine (Qb f).mono ?_;rintro e w1 ⟨rfl,d⟩));go_ret;refine ⟨⟨j,rfl,?_⟩,a.out.trans (d.mono a.out.size)⟩;rw [v.out];simp
   | false =>
    rw [e] at f;have y:Hid (JL nm x (j+1)=false):=Qa (by rw [Qq5,k.out,e];rfl);clear g h;go_wp2_with (first|(go_at_call 110;refine (Qb f).mono ?_;rintro e w1 ⟨rfl,d⟩));have z:=Qa (a.out.trans (d.mono a.out.size));clear d;go_roundw;·exact ⟨j+1,by omega,by go_num,y,z⟩
    simp [intOf];omega
  have t:j=n:=by omega
  subst t;have s:¬ (j:Int)<(j:Int):=by omega
  go_wp2;go_ret;exact ⟨⟨-1,rfl,by rw [k.out];rfl⟩,a.out⟩
theorem QoE ao (n c:Nat) nm vl (A:Nat) (x:ByteArray) w (g:n<=1000000) (d:Zn w ao n nm vl) (a:Xc w A 0 (.string x)) (h:A<w.heap.size) : Xl 109 #[.slice ao n c,.func (.func 110) #[] #[Xp A]] w λe w'=>e=.returned (.bool (JL nm x n))/\Xb w w':=by have i:=Qa (QrI ao n c nm vl A x w g d a h);clear d a;go_enter Tryz.func109,Tryz.ntmps109;go_wp2_with (first|(go_at_call 126;refine (Qb i).mono ?_;rintro e w1 ⟨⟨r,rfl,b⟩,f⟩;have j:=Qa b;clear b));go_ret;refine ⟨?_,f⟩;rw [<- j.out];simp
theorem QrL (a b c d:ByteArray) (w:World):(binOp .eql 72 (.agg #[.string a,.string b]) (.agg #[.string c,.string d])).run Tryz.prog w=.ok (.bool ((a.toList==c.toList)&&(b.toList==d.toList))) w:=by
 rw [run_eql_struct,run_equalIn_agg w _ _ _ _ (by kernel_rfl) (by kernel_rfl)];have g:(Tryz.prog.fieldsOf 72).toList.map (λf=>(f.type,f.offset,f.name== "_"))=[(9,0,false),(9,1,false)]:=by kernel_rfl
 generalize (Tryz.prog.fieldsOf 72).toList=h at *;have i:=congrArg List.length g;rw [length_map] at i;rcases h with _|⟨l,_|⟨m,_|⟨n,h⟩⟩⟩;case cons.cons.nil =>simp only [map_cons,map_nil,List.cons.injEq,and_true] at g;obtain ⟨j,k⟩:=g;rw [Qe5 w j rfl rfl,Qe5 w k rfl rfl,Op.eqFields];cases (a.toList==c.toList)<;>cases (b.toList==d.toList)<;>rfl
 all_goals (simp at i)
theorem QqD ao (n c:Nat) nm vl (x a:ByteArray) w (K:n<=1000000) (C:Zn w ao n nm vl) : Xl 127 #[.slice ao n c,.agg #[.string x,.string a]] w λe w'=>(∃ r:Int,e=.returned (Xi r)/\decide (0<=r)=JN nm vl x a n)/\Xb w w':=by
 have J:=Qa C;clear C;have k:∀ v y z A (w:World),(binOp .eql 72 (.agg #[.string v,.string y]) (.agg #[.string z,.string A])).run Tryz.prog w=.ok (.bool ((v.toList==z.toList)&&(y.toList==A.toList))) w:=QrL;go_enter Tryz.func127,Tryz.ntmps127;go_wp2_with fail;have F:(w.alloc (.cells #[.string x,.string a] 72)).cell? (Xa w.heap.size 0)=some (.string x):=by simp [go_sem]
 have G:(w.alloc (.cells #[.string x,.string a] 72)).cell? (Xa w.heap.size 1)=some (.string a):=by simp [go_sem]
 have p:Xb w (w.alloc (.cells #[.string x,.string a] 72)):=Xd;have q:w.heap.size<(w.alloc (.cells #[.string x,.string a] 72)).heap.size:=by simp
 generalize w.alloc (.cells #[.string x,.string a] 72)=B at *;have d:=Qa p;clear p;go_loopw [5,8] (λ_ i wr=>∃ j:Nat,j<=n/\i=Xi j/\Hid (JN nm vl x a j=false)/\Hid (Xb B wr)) (λ_ i _=>n-(intOf i).toNat);·exact ⟨0,X3,rfl,Qa rfl,Qa X4⟩
 case round =>
  obtain ⟨j,L,rfl,s,f⟩:=hrel;have M:=(Xh f.out w.heap.size 0 q).trans F;have N:=(Xh f.out w.heap.size 1 q).trans G;by_cases t:j<n
  ·obtain ⟨b,g,rfl,h,l,m,_,_⟩:=J.out j t;have o:b<B.heap.size:=Xb4 h d.out.size;have O:=(Xh f.out b (g+j*2) o).trans ((Xh d.out b (g+j*2) h).trans l);have P:=(Xh f.out b (g+j*2+1) o).trans ((Xh d.out b (g+j*2+1) h).trans m);have D:(j:Int)<(n:Int):=by omega
   have u:=λw=>k x a (nm j) (vl j) w;cases e:((x.toList==(nm j).toList)&&(a.toList==(vl j).toList)) with
   | true =>have H:=Qa (Qpf t e);simp only [e] at u;clear l m k;go_wp2;go_big_quiet (fail);go_wp2;go_ret;refine ⟨⟨j,rfl,?_⟩,d.out.trans (Qv (f.out.mono d.out.size) _)⟩;rw [H.out];simp
   | false =>
    have I:Hid (JN nm vl x a (j+1)=false):=Qa (by rw [QwQ,s.out,e];rfl);simp only [e] at u;clear l m k;go_wp2;go_big_quiet (fail);go_wp2;go_roundw;·exact ⟨j+1,by omega,by go_num,I,Qa (Qv f.out _)⟩
    simp [intOf];omega
  have E:j=n:=by omega
  subst E;have D:¬ (j:Int)<(j:Int):=by omega
  go_wp2;go_ret;exact ⟨⟨-1,rfl,by rw [s.out];rfl⟩,d.out.trans (f.out.mono d.out.size)⟩
theorem Qn9 ao (n c:Nat) nm vl (x a:ByteArray) w (g:n<=1000000) (d:Zn w ao n nm vl) : Xl 111 #[.slice ao n c,.agg #[.string x,.string a]] w λe w'=>e=.returned (.bool (JN nm vl x a n))/\Xb w w':=by have h:Hid (∀ w1,Xb w w1->Xl 127 #[.slice ao n c,.agg #[.string x,.string a]] w1 λe w'=>(∃ r:Int,e=.returned (Xi r)/\decide (0<=r)=JN nm vl x a n)/\Xb w1 w'):=Qa λw1 i=>QqD ao n c nm vl x a w1 g (d.below i);clear d;go_enter Tryz.func111,Tryz.ntmps111;go_wp2_with (first|(go_at_call 127;refine (Qb h _ Xd).mono ?_;rintro e w1 ⟨⟨r,rfl,b⟩,f⟩;have j:=Qa b;clear b));go_ret;refine ⟨?_,((Below.refl w.heap.size w).alloc X0 _).trans (f.mono (by simp))⟩;rw [<- j.out];simp
def Qh.cells (x:Qh):List Value:=[Xi x.kind,Xi x.id,Xi x.par,Xi x.bef,Xi x.key,.string x.tag,.string x.name,.string x.text]
def Qa2 (l:List Qh):List Value:=l.flatMap Qh.cells
theorem QpG (l:List Qh) (x:Qh):Qa2 (l++[x])=Qa2 l++x.cells:=by unfold Qa2;simp
structure Zl (B:Nat) (w:World) (WB:Nat) (pv:Value) (P:List Qh) (last:Int):Prop where
 c0:w.cell? (Xa WB 0)=some pv
 f0:w.frozen? (Xa WB 0)=false
 c1:w.cell? (Xa WB 1)=some (Xi last)
 f1:w.frozen? (Xa WB 1)=false
 row:w.ownsRow B 29 8 pv P.length (Qa2 P)
 apart:∀ b,pv.ownBlock=some b->b≠WB
 lt:WB<w.heap.size
theorem Qhr (s:ByteArray) (w:World) (g:s.size<=281474976710656) : Xl 63 #[.string s] w λe w'=>e=.returned (.string s)/\Xb w w'/\(∀ a v,w.cell? a=some v->w'.cell? a=some v)/\∀ b c v,w.cell? (Xa b c)=some v->w.frozen? (Xa b c)=false->w'.frozen? (Xa b c)=false:=by refine (Qc5 s w g).mono ?_;rintro e w' ⟨rfl,f⟩;refine ⟨rfl,f,λa v d=>(f.cell (World.block_lt_of_cell? w a d)).trans d,λb c v d h=>(Xj f b c (World.block_lt_of_cell? w _ d)).trans h⟩
theorem Qmk B WB pv P last w (aE:Zl B w WB pv P last) (b7:B<=w.heap.size) (b8:P.length<=1000000) (x:Qh) (aJ:x.tag.size<=281474976710656) (aK:x.name.size<=281474976710656) (aL:x.text.size<=281474976710656) (b D c:Nat) (a6:b<w.heap.size) (K:∀ r,r<8->w.cell? (Xa b (D+r))=some (QY x r)) : Xl 92 #[Xp WB,.slice (some (Xa b D)) 1 c] w λe w'=>e=.returned (.tuple #[])/\∃ M,Zl B w' WB M (P++[x]) last/\(∀ b,M.ownBlock=some b->pv.ownBlock=some b \/ w.heap.size<=b)/\Qi (λb=>b=WB \/ some b=pv.ownBlock) w w':=by
 obtain ⟨aW,aX,aM,aN,aO⟩:=info_parts QiU;obtain ⟨j,id,pa,bf,k,d,nm,f⟩:=x;have b9:Xc w b D (Xi j):=K 0 (by omega);have ba:Xc w b (D+1) (Xi id):=K 1 (by omega);have O:Xc w b (D+2) (Xi pa):=K 2 (by omega);have bb:Xc w b (D+3) (Xi bf):=K 3 (by omega);have bc:Xc w b (D+4) (Xi k):=K 4 (by omega);have bd:Xc w b (D+5) (.string d):=K 5 (by omega);have bg:Xc w b (D+6) (.string nm):=K 6 (by omega);have bh:Xc w b (D+7) (.string f):=K 7 (by omega);have U:=Qa aE;clear aE K;go_enter Tryz.func92,Tryz.ntmps92;go_wp2;go_loopw [5,8] (λ_ i wr=>(i=Xi 0/\wr=w) \/ (i=Xi 1/\Hid (∃ M,Zl B wr WB M (P++[⟨j,id,pa,bf,k,d,nm,f⟩]) last/\(∀ b,M.ownBlock=some b->pv.ownBlock=some b \/ w.heap.size<=b)/\Qi (λb=>b=WB \/ some b=pv.ownBlock) w wr))) (λ_ i _=>1-(intOf i).toNat);·exact .inl ⟨rfl,rfl⟩
 case round =>
  rcases hrel with ⟨rfl,rfl⟩|⟨rfl,aY⟩
  ·go_wp2_with fail;generalize p:wr.alloc (.cells #[Xi j,Xi id,Xi pa,Xi bf,Xi k,.string d,.string nm,.string f] 29)=R;have ak:=Xt p;have aZ:wr.heap.size<R.heap.size:=by rw [<- p];simp
   have ax:=Xz p 0 (Xi j) rfl;have ay:=Xz p 1 (Xi id) rfl;have L:=Xz p 2 (Xi pa) rfl;have az:=Xz p 3 (Xi bf) rfl;have aA:=Xz p 4 (Xi k) rfl;have a7:=Xz p 5 (.string d) rfl;have a8:=Xz p 6 (.string nm) rfl;have a9:=Xz p 7 (.string f) rfl;have aB:R.frozen? (Xa wr.heap.size 5)=false:=by rw [<- p];simp [go_sem]
   have aC:R.frozen? (Xa wr.heap.size 6)=false:=by rw [<- p];simp [go_sem]
   have aD:R.frozen? (Xa wr.heap.size 7)=false:=by rw [<- p];simp [go_sem]
   have aP:=Qa ak;clear p ak;have g:(λw':World=>Xc w' wr.heap.size 5 (.string d)/\Xc w' wr.heap.size 6 (.string nm)/\Xc w' wr.heap.size 7 (.string f)) R.drew:=⟨a7,a8,a9⟩;refine ZU (S:=(λw':World=>w'.cell? (Xa wr.heap.size 5)=some (.string d)/\w'.cell? (Xa wr.heap.size 6)=some (.string nm)/\w'.cell? (Xa wr.heap.size 7)=some (.string f))) (by kernel_rfl) ?_;iterate 2
    apply Qbz ?_ g ?_;rotate_left
    ·(intro w' hSw;(try obtain ⟨q0,q1,q2⟩:=hSw);simp only [Xq];go_simp;try (with_reducible rfl))
    simp only [Xq,Xr]
   refine J9 3 ?_;apply Qbh ?_ g ?_;rotate_left
   ·(intro w' hSw;(try obtain ⟨q0,q1,q2⟩:=hSw);simp only [Xq];go_simp;try (with_reducible rfl))
   simp only [Xq,Xr];refine J9 4 ?_;apply Qbh ?_ g ?_;rotate_left
   ·(intro w' hSw;(try obtain ⟨q0,q1,q2⟩:=hSw);simp only [Xq];go_simp;try (with_reducible rfl))
   simp only [Xq,Xr];refine J9 6 ?_;apply Qbh ?_ g ?_;rotate_left
   ·(intro w' hSw;(try obtain ⟨q0,q1,q2⟩:=hSw);simp only [Xq];go_simp;try (with_reducible rfl))
   simp only [Xq,Xr];refine J9 7 ?_;apply Qbh ?_ g ?_;rotate_left
   ·(intro w' hSw;(try obtain ⟨q0,q1,q2⟩:=hSw);simp only [Xq];go_simp;try (with_reducible rfl))
   simp only [Xq,Xr];refine Qbe 2 ?_;simp only [Xq];go_simp;refine (Qhr d _ aJ).mono ?_;rintro e w2 ⟨rfl,al,E,a1⟩;have b2_0:Xc w2 wr.heap.size 0 (Xi j):=E _ _ ax;have b2_1:Xc w2 wr.heap.size 1 (Xi id):=E _ _ ay;have b2_2:Xc w2 wr.heap.size 2 (Xi pa):=E _ _ L;have b2_3:Xc w2 wr.heap.size 3 (Xi bf):=E _ _ az;have b2_4:Xc w2 wr.heap.size 4 (Xi k):=E _ _ aA;have b2_5:Xc w2 wr.heap.size 5 (.string d):=E _ _ a7;have b2_6:Xc w2 wr.heap.size 6 (.string nm):=E _ _ a8;have b2_7:Xc w2 wr.heap.size 7 (.string f):=E _ _ a9;have g2_5:Xf w2 wr.heap.size 5:=a1 _ _ _ a7 aB;have g2_6:Xf w2 wr.heap.size 6:=a1 _ _ _ a8 aC;have g2_7:Xf w2 wr.heap.size 7:=a1 _ _ _ a9 aD;clear g;have g:(λw':World=>Xc w' wr.heap.size 5 (.string d)/\Xc w' wr.heap.size 6 (.string nm)/\Xc w' wr.heap.size 7 (.string f)) w2:=⟨b2_5,b2_6,b2_7⟩;refine ⟨.inr g,?_⟩;have aQ:Hid (Xb wr w2):=Qa (aP.out.trans (((Below.refl R.heap.size R).drew.trans al).mono (Xc7 aZ)));have b0:wr.heap.size<w2.heap.size:=X6 b2_5;clear al E a1 ax ay L az aA a7 a8 a9 aB aC aD;try simp only [Xr]
   refine J9 9 ?_;apply Qbh ?_ g ?_;rotate_left
   ·(intro w' hSw;(try obtain ⟨q0,q1,q2⟩:=hSw);simp only [Xq];go_simp;try (with_reducible rfl))
   simp only [Xq,Xr];refine Qbe 5 ?_;simp only [Xq];go_simp;refine (Qhr nm _ aK).mono ?_;rintro e q ⟨rfl,ao,F,a2⟩;have b5_0:Xc q wr.heap.size 0 (Xi j):=F _ _ b2_0;have b5_1:Xc q wr.heap.size 1 (Xi id):=F _ _ b2_1;have b5_2:Xc q wr.heap.size 2 (Xi pa):=F _ _ b2_2;have b5_3:Xc q wr.heap.size 3 (Xi bf):=F _ _ b2_3;have b5_4:Xc q wr.heap.size 4 (Xi k):=F _ _ b2_4;have b5_5:Xc q wr.heap.size 5 (.string d):=F _ _ b2_5;have b5_6:Xc q wr.heap.size 6 (.string nm):=F _ _ b2_6;have b5_7:Xc q wr.heap.size 7 (.string f):=F _ _ b2_7;have g5_5:Xf q wr.heap.size 5:=a2 _ _ _ b2_5 g2_5;have g5_6:Xf q wr.heap.size 6:=a2 _ _ _ b2_6 g2_6;have g5_7:Xf q wr.heap.size 7:=a2 _ _ _ b2_7 g2_7;clear g;have g:(λw':World=>Xc w' wr.heap.size 5 (.string d)/\Xc w' wr.heap.size 6 (.string nm)/\Xc w' wr.heap.size 7 (.string f)) q:=⟨b5_5,b5_6,b5_7⟩;refine ⟨.inr g,?_⟩;have aR:Hid (Xb wr q):=Qa (aQ.out.trans (ao.mono (Xc7 b0)));have b1:wr.heap.size<q.heap.size:=X6 b5_5;clear ao F a2 b2_0 b2_1 b2_2 b2_3 b2_4 b2_5 b2_6 b2_7 g2_5 g2_6 g2_7;try simp only [Xr]
   refine Qbe 8 ?_;simp only [Xq];go_simp;refine (Qhr f _ aL).mono ?_;rintro e o ⟨rfl,ap,G,a3⟩;have b8_0:Xc o wr.heap.size 0 (Xi j):=G _ _ b5_0;have b8_1:Xc o wr.heap.size 1 (Xi id):=G _ _ b5_1;have b8_2:Xc o wr.heap.size 2 (Xi pa):=G _ _ b5_2;have b8_3:Xc o wr.heap.size 3 (Xi bf):=G _ _ b5_3;have b8_4:Xc o wr.heap.size 4 (Xi k):=G _ _ b5_4;have b8_5:Xc o wr.heap.size 5 (.string d):=G _ _ b5_5;have b8_6:Xc o wr.heap.size 6 (.string nm):=G _ _ b5_6;have b8_7:Xc o wr.heap.size 7 (.string f):=G _ _ b5_7;have g8_5:Xf o wr.heap.size 5:=a3 _ _ _ b5_5 g5_5;have g8_6:Xf o wr.heap.size 6:=a3 _ _ _ b5_6 g5_6;have g8_7:Xf o wr.heap.size 7:=a3 _ _ _ b5_7 g5_7;clear g;have g:(λw':World=>Xc w' wr.heap.size 5 (.string d)/\Xc w' wr.heap.size 6 (.string nm)/\Xc w' wr.heap.size 7 (.string f)) o:=⟨b8_5,b8_6,b8_7⟩;refine ⟨.inr g,?_⟩;have aS:Hid (Xb wr o):=Qa (aR.out.trans (ap.mono (Xc7 b1)));have bi:wr.heap.size<o.heap.size:=X6 b8_5;clear ap G a3 b5_0 b5_1 b5_2 b5_3 b5_4 b5_5 b5_6 b5_7 g5_5 g5_6 g5_7;try simp only [Xr]
   refine Qbe 10 ?_;simp only [Xq];go_simp;generalize s:o.setCell (Xa wr.heap.size 5) (.string d)=l;have d10_0:l.cell? (Xa wr.heap.size 0)=some (Xi j):=by rw [<- s];exact (Xb9 _ _ _ _ (by intro e;cases e)).trans b8_0
   have d10_1:l.cell? (Xa wr.heap.size 1)=some (Xi id):=by rw [<- s];exact (Xb9 _ _ _ _ (by intro e;cases e)).trans b8_1
   have d10_2:l.cell? (Xa wr.heap.size 2)=some (Xi pa):=by rw [<- s];exact (Xb9 _ _ _ _ (by intro e;cases e)).trans b8_2
   have d10_3:l.cell? (Xa wr.heap.size 3)=some (Xi bf):=by rw [<- s];exact (Xb9 _ _ _ _ (by intro e;cases e)).trans b8_3
   have d10_4:l.cell? (Xa wr.heap.size 4)=some (Xi k):=by rw [<- s];exact (Xb9 _ _ _ _ (by intro e;cases e)).trans b8_4
   have d10_5:l.cell? (Xa wr.heap.size 5)=some (.string d):=by rw [<- s];exact Xc9 _ _ _ b8_5
   have d10_6:l.cell? (Xa wr.heap.size 6)=some (.string nm):=by rw [<- s];exact (Xb9 _ _ _ _ (by intro e;cases e)).trans b8_6
   have d10_7:l.cell? (Xa wr.heap.size 7)=some (.string f):=by rw [<- s];exact (Xb9 _ _ _ _ (by intro e;cases e)).trans b8_7
   have e10_5:l.frozen? (Xa wr.heap.size 5)=false:=by rw [<- s];exact (Xd4 ..).trans g8_5
   have e10_6:l.frozen? (Xa wr.heap.size 6)=false:=by rw [<- s];exact (Xd4 ..).trans g8_6
   have e10_7:l.frozen? (Xa wr.heap.size 7)=false:=by rw [<- s];exact (Xd4 ..).trans g8_7
   have aF:Hid (Xb wr l):=Qa (by rw [<- s];exact aS.out.setCell X0 _);have b3:wr.heap.size<l.heap.size:=X6 d10_5;clear g;have g:(λw':World=>Xc w' wr.heap.size 5 (.string d)/\Xc w' wr.heap.size 6 (.string nm)/\Xc w' wr.heap.size 7 (.string f)) l:=⟨d10_5,d10_6,d10_7⟩;clear s b8_0 b8_1 b8_2 b8_3 b8_4 b8_5 b8_6 b8_7 g8_5 g8_6 g8_7;try simp only [Xr]
   refine J9 11 ?_;apply Qbh ?_ g ?_;rotate_left
   ·(intro w' hSw;(try obtain ⟨q0,q1,q2⟩:=hSw);simp only [Xq];go_simp;try (with_reducible rfl))
   simp only [Xq,Xr];refine Qbe 12 ?_;simp only [Xq];go_simp;generalize t:l.setCell (Xa wr.heap.size 6) (.string nm)=m;have d12_0:m.cell? (Xa wr.heap.size 0)=some (Xi j):=by rw [<- t];exact (Xb9 _ _ _ _ (by intro e;cases e)).trans d10_0
   have d12_1:m.cell? (Xa wr.heap.size 1)=some (Xi id):=by rw [<- t];exact (Xb9 _ _ _ _ (by intro e;cases e)).trans d10_1
   have d12_2:m.cell? (Xa wr.heap.size 2)=some (Xi pa):=by rw [<- t];exact (Xb9 _ _ _ _ (by intro e;cases e)).trans d10_2
   have d12_3:m.cell? (Xa wr.heap.size 3)=some (Xi bf):=by rw [<- t];exact (Xb9 _ _ _ _ (by intro e;cases e)).trans d10_3
   have d12_4:m.cell? (Xa wr.heap.size 4)=some (Xi k):=by rw [<- t];exact (Xb9 _ _ _ _ (by intro e;cases e)).trans d10_4
   have d12_5:m.cell? (Xa wr.heap.size 5)=some (.string d):=by rw [<- t];exact (Xb9 _ _ _ _ (by intro e;cases e)).trans d10_5
   have d12_6:m.cell? (Xa wr.heap.size 6)=some (.string nm):=by rw [<- t];exact Xc9 _ _ _ d10_6
   have d12_7:m.cell? (Xa wr.heap.size 7)=some (.string f):=by rw [<- t];exact (Xb9 _ _ _ _ (by intro e;cases e)).trans d10_7
   have e12_5:m.frozen? (Xa wr.heap.size 5)=false:=by rw [<- t];exact (Xd4 ..).trans e10_5
   have e12_6:m.frozen? (Xa wr.heap.size 6)=false:=by rw [<- t];exact (Xd4 ..).trans e10_6
   have e12_7:m.frozen? (Xa wr.heap.size 7)=false:=by rw [<- t];exact (Xd4 ..).trans e10_7
   have aG:Hid (Xb wr m):=Qa (by rw [<- t];exact aF.out.setCell X0 _);have b4:wr.heap.size<m.heap.size:=X6 d12_5;clear g;have g:(λw':World=>Xc w' wr.heap.size 5 (.string d)/\Xc w' wr.heap.size 6 (.string nm)/\Xc w' wr.heap.size 7 (.string f)) m:=⟨d12_5,d12_6,d12_7⟩;clear t d10_0 d10_1 d10_2 d10_3 d10_4 d10_5 d10_6 d10_7 e10_5 e10_6 e10_7;try simp only [Xr]
   refine J9 13 ?_;apply Qbh ?_ g ?_;rotate_left
   ·(intro w' hSw;(try obtain ⟨q0,q1,q2⟩:=hSw);simp only [Xq];go_simp;try (with_reducible rfl))
   simp only [Xq,Xr];refine Qbe 14 ?_;simp only [Xq];go_simp;generalize v:m.setCell (Xa wr.heap.size 7) (.string f)=h;have d14_0:h.cell? (Xa wr.heap.size 0)=some (Xi j):=by rw [<- v];exact (Xb9 _ _ _ _ (by intro e;cases e)).trans d12_0
   have d14_1:h.cell? (Xa wr.heap.size 1)=some (Xi id):=by rw [<- v];exact (Xb9 _ _ _ _ (by intro e;cases e)).trans d12_1
   have d14_2:h.cell? (Xa wr.heap.size 2)=some (Xi pa):=by rw [<- v];exact (Xb9 _ _ _ _ (by intro e;cases e)).trans d12_2
   have d14_3:h.cell? (Xa wr.heap.size 3)=some (Xi bf):=by rw [<- v];exact (Xb9 _ _ _ _ (by intro e;cases e)).trans d12_3
   have d14_4:h.cell? (Xa wr.heap.size 4)=some (Xi k):=by rw [<- v];exact (Xb9 _ _ _ _ (by intro e;cases e)).trans d12_4
   have d14_5:h.cell? (Xa wr.heap.size 5)=some (.string d):=by rw [<- v];exact (Xb9 _ _ _ _ (by intro e;cases e)).trans d12_5
   have d14_6:h.cell? (Xa wr.heap.size 6)=some (.string nm):=by rw [<- v];exact (Xb9 _ _ _ _ (by intro e;cases e)).trans d12_6
   have d14_7:h.cell? (Xa wr.heap.size 7)=some (.string f):=by rw [<- v];exact Xc9 _ _ _ d12_7
   have e14_5:h.frozen? (Xa wr.heap.size 5)=false:=by rw [<- v];exact (Xd4 ..).trans e12_5
   have e14_6:h.frozen? (Xa wr.heap.size 6)=false:=by rw [<- v];exact (Xd4 ..).trans e12_6
   have e14_7:h.frozen? (Xa wr.heap.size 7)=false:=by rw [<- v];exact (Xd4 ..).trans e12_7
   have ac:Hid (Xb wr h):=Qa (by rw [<- v];exact aG.out.setCell X0 _);have A:wr.heap.size<h.heap.size:=X6 d14_5;clear g;clear v d12_0 d12_1 d12_2 d12_3 d12_4 d12_5 d12_6 d12_7 e12_5 e12_6 e12_7;try simp only [Xr]
   refine ZP (by kernel_rfl) ?_ _;have V:=U.out;have T:WB<wr.heap.size:=V.lt;obtain ⟨H,I,aT⟩:=Qy V.row;subst aT;have af:Xc h WB 0 (.slice H P.length I):=(Xh ac.out WB 0 T).trans V.c0;have ag:Xf h WB 0:=(Xj ac.out WB 0 T).trans V.f0;clear V;go_wp2_with fail;have g:(λw':World=>Xf w' WB 0/\Xc w' WB 0 (.slice H P.length I)/\Xc w' wr.heap.size 0 (Xi j)/\Xc w' wr.heap.size 1 (Xi id)/\Xc w' wr.heap.size 2 (Xi pa)/\Xc w' wr.heap.size 3 (Xi bf)/\Xc w' wr.heap.size 4 (Xi k)/\Xc w' wr.heap.size 5 (.string d)/\Xc w' wr.heap.size 6 (.string nm)/\Xc w' wr.heap.size 7 (.string f)) h.drew:=⟨ag,af,d14_0,d14_1,d14_2,d14_3,d14_4,d14_5,d14_6,d14_7⟩;refine ZU (S:=(λw':World=>w'.frozen? (Xa WB 0)=false/\w'.cell? (Xa WB 0)=some (.slice H P.length I)/\w'.cell? (Xa wr.heap.size 0)=some (Xi j)/\w'.cell? (Xa wr.heap.size 1)=some (Xi id)/\w'.cell? (Xa wr.heap.size 2)=some (Xi pa)/\w'.cell? (Xa wr.heap.size 3)=some (Xi bf)/\w'.cell? (Xa wr.heap.size 4)=some (Xi k)/\w'.cell? (Xa wr.heap.size 5)=some (.string d)/\w'.cell? (Xa wr.heap.size 6)=some (.string nm)/\w'.cell? (Xa wr.heap.size 7)=some (.string f))) (by kernel_rfl) ?_;iterate 6
    apply Qbz ?_ g ?_;rotate_left
    ·(intro w' hSw;(try obtain ⟨q0,q1,q2,q3,bj,bk,bl,bm,bn,bo⟩:=hSw);simp only [Xq];go_simp;try (with_reducible rfl))
    simp only [Xq,Xr]
   refine Qbe 6 ?_;simp only [Xq];go_simp;generalize W:h.alloc (.cells #[Xi j,Xi id,Xi pa,Xi bf,Xi k,.string d,.string nm,.string f] 29)=z;have y:=Xt W;have b2:=X1 W;have ai:∀ a,some ((Xa h.heap.size 0):Addr)=some a->∀ i u,[Xi j,Xi id,Xi pa,Xi bf,Xi k,.string d,.string nm,.string f][i]?=some u->z.drew.cell? (a.add i)=some u:=by rw [<- W];exact Q3 h #[Xi j,Xi id,Xi pa,Xi bf,Xi k,.string d,.string nm,.string f] 29
   have N:Hid (Xb wr z.drew):=Qa ((ac.out.trans (y.mono (Xc7 A))).drew);have d15_0:=(Xh y wr.heap.size 0 A).trans d14_0;have d15_1:=(Xh y wr.heap.size 1 A).trans d14_1;have d15_2:=(Xh y wr.heap.size 2 A).trans d14_2;have d15_3:=(Xh y wr.heap.size 3 A).trans d14_3;have d15_4:=(Xh y wr.heap.size 4 A).trans d14_4;have d15_5:=(Xh y wr.heap.size 5 A).trans d14_5;have d15_6:=(Xh y wr.heap.size 6 A).trans d14_6;have d15_7:=(Xh y wr.heap.size 7 A).trans d14_7;have ad:=(Xh y WB 0 (Xc6 T A)).trans af;have ae:Xf z WB 0:=(Xj y WB 0 (Xc6 T A)).trans ag;refine ⟨.inr ⟨ae,ad⟩,?_⟩;have ah:=Qa (QX U.out.row N.out);have aU:wr.heap.size<z.heap.size:=by omega
   clear W y g af ag;clear d14_0 d14_1 d14_2 d14_3 d14_4 d14_5 d14_6 d14_7;try simp only [Xr]
   refine Qbe 7 ?_;simp only [Xq];refine QeZ z.drew _ _ 25 (by rfl) B 29 aW _ 8 88 Tryz.underlying25 aX aM aN aO rfl (.slice H P.length I) P.length _ (by rfl) ah.out (some (Xa h.heap.size 0)) 1 1 [Xi j,Xi id,Xi pa,Xi bf,Xi k,.string d,.string nm,.string f] (by rfl) (by simp) rfl ai (by simp [Value.oneCell']) (by omega) (by omega) (by show B<=z.heap.size;omega) ?_;intro bp n ab X;obtain ⟨L,O,rfl⟩:=Qy ab;have b5:z.heap.size<=n.heap.size:=X.size;have a4:∀ b,Value.ownBlock (.slice H P.length I)=some b->b≠WB/\b<wr.heap.size:=λb e=>⟨U.out.apart b e,(U.out.row.lt b e).2⟩;have Y:∀ b,b<z.heap.size->Value.ownBlock (.slice H P.length I)≠some b->n.heap[b]?=z.heap[b]?:=λb a6 aa=>X.by.block b a6 (λe=>aa e.symm);have a5:n.heap[WB]?=z.heap[WB]?:=Y WB (by omega) (λe=>(a4 _ e).1 rfl);have J:n.heap[wr.heap.size]?=z.heap[wr.heap.size]?:=Y _ aU (λe=>Xc8 _ (a4 _ e).2);have aq:=(Xk WB 0 a5).trans ad;have ar:=(Xm WB 0 a5).trans ae;have d16_0:Xc n wr.heap.size 0 (Xi j):=(Xb3 J).trans d15_0;have d16_1:Xc n wr.heap.size 1 (Xi id):=(Xb3 J).trans d15_1;have d16_2:Xc n wr.heap.size 2 (Xi pa):=(Xb3 J).trans d15_2;have d16_3:Xc n wr.heap.size 3 (Xi bf):=(Xb3 J).trans d15_3;have d16_4:Xc n wr.heap.size 4 (Xi k):=(Xb3 J).trans d15_4;have d16_5:Xc n wr.heap.size 5 (.string d):=(Xb3 J).trans d15_5;have d16_6:Xc n wr.heap.size 6 (.string nm):=(Xb3 J).trans d15_6;have d16_7:Xc n wr.heap.size 7 (.string f):=(Xb3 J).trans d15_7;refine ⟨.inr ⟨ar,aq,d16_0,d16_1,d16_2,d16_3,d16_4,d16_5,d16_6,d16_7⟩,?_⟩;clear d15_0 d15_1 d15_2 d15_3 d15_4 d15_5 d15_6 d15_7 J ad ae ai ah;have aH:=Qa ab;have a0:=Qa X;have aV:=Qa a4;have aI:=Qa Y;have au:=Qa a5;clear ab X a4 Y a5;try simp only [Xr]
   refine Qbe 8 ?_;simp only [Xq];go_simp;refine Qbe 9 ?_;simp only [Xq];go_simp;refine Qbe 10 ?_;simp only [Xq];go_simp;refine ⟨by kernel_rfl,?_⟩;clear d16_0 d16_1 d16_2 d16_3 d16_4 d16_5 d16_6 d16_7;refine ZP (by kernel_rfl) ?_ _;have av:∀ b,Value.ownBlock (.slice L (P.length+1) O)=some b->Value.ownBlock (.slice H P.length I)=some b \/ z.heap.size<=b:=λb e=>by
    rcases a0.out with ⟨C,_⟩|⟨C,_⟩
    ·rw [e] at C;exact .inl C.symm
    rw [e] at C;have:=Xb5 C;exact .inr (by rw [this];exact X0)
   have aw:∀ b,Value.ownBlock (.slice L (P.length+1) O)=some b->b≠WB:=λb e=>by
    rcases av b e with C|C
    ·exact (aV.out b C).1
    omega
   have aj:Hid (∃ M,Zl B (n.setCell (Xa WB 0) (.slice L (P.length+1) O)) WB M (P++[⟨j,id,pa,bf,k,d,nm,f⟩]) last/\(∀ b,M.ownBlock=some b->Value.ownBlock (.slice H P.length I)=some b \/ wr.heap.size<=b)/\Qi (λb=>b=WB \/ some b=Value.ownBlock (.slice H P.length I)) wr (n.setCell (Xa WB 0) (.slice L (P.length+1) O))):=by
    refine Qa ⟨.slice L (P.length+1) O,⟨Xc9 _ _ _ aq,(Xd4 ..).trans ar,?_,?_,?_,aw,?_⟩,?_,?_⟩
    ·exact (Xb9 _ _ _ _ (λe=>by cases e)).trans ((Xb3 au.out).trans ((Xh N.out WB 1 T).trans U.out.c1))
    ·exact (Xd4 ..).trans ((Xd1 au.out).trans ((Xj N.out WB 1 T).trans U.out.f1))
    ·rw [QpG,length_append];exact Qbl aH.out (.inr λe=>aw WB e rfl)
    ·rw [QJ];omega
    ·intro b e;rcases av b e with C|C
     ·exact .inl C
     exact .inr (by omega)
    refine ⟨a0.out.by.os.trans N.out.os,a0.out.by.tape.trans N.out.tape,a0.out.by.output.trans N.out.output,by rw [QJ];omega,λb a6 aa=>?_⟩;rw [X5 (λe=>aa (.inl e)),aI.out b (by omega) λe=>aa (.inr e.symm)];exact N.out.block b a6
   generalize n.setCell (Xa WB 0) (.slice L (P.length+1) O)=b6 at aj;go_wp2_with fail;exact ⟨.inr ⟨rfl,aj⟩,by decide⟩
  go_wp2;refine bodyPost_end (results_none rfl _ _ _) rfl ?_;exact ⟨rfl,aY.out⟩
structure QT (WB:Nat) (pv pv':Value) (w w':World):Prop where
 touch:Qi (λb=>b=WB \/ some b=pv.ownBlock) w w'
 row:∀ b,pv'.ownBlock=some b->pv.ownBlock=some b \/ w.heap.size<=b
def ZB (WB:Nat) (pv:Value) (w:World) (b:Nat):Prop:=b<w.heap.size/\b≠WB/\pv.ownBlock≠some b
theorem QT.refl (WB:Nat) (pv:Value) (w:World):QT WB pv pv w w:=⟨⟨rfl,rfl,rfl,X0,λ_ _ _=>rfl⟩,λ_ a=>.inl a⟩
theorem QT.of_below {WB:Nat} {pv:Value} {w w':World} (a:Xb w w'):QT WB pv pv w w':=⟨.of_below a,λ_ a=>.inl a⟩
theorem QT.trans {WB:Nat} {pv f g:Value} {w w1 w2:World} (a:QT WB pv f w w1) (k:QT WB f g w1 w2):QT WB pv g w w2:=by
 refine ⟨⟨k.touch.os.trans a.touch.os,k.touch.tape.trans a.touch.tape,k.touch.output.trans a.touch.output,Xb6 a.touch.size k.touch.size,λb h d=>?_⟩,λb e=>?_⟩
 ·refine (k.touch.block b (Xb4 h a.touch.size) ?_).trans (a.touch.block b h d);rintro (e|e)
  ·exact d (.inl e)
  rcases a.row b e.symm with c|c
  ·exact d (.inr c.symm)
  omega
 rcases k.row b e with c|c
 ·exact a.row b c
 exact .inr (Xb6 a.touch.size c)
theorem ZB.tells {c:Value} (a:ZB WB pv w b) (k:QT WB pv c w w'):ZB WB c w' b:=by
 refine ⟨Xb4 a.1 k.touch.size,a.2.1,λe=>?_⟩;rcases k.row b e with d|d
 ·exact a.2.2 d
 have:=a.1;omega
theorem ZB.block {WB:Nat} {pv c:Value} {w w':World} {b:Nat} (a:ZB WB pv w b) (k:QT WB pv c w w'):w'.heap[b]?=w.heap[b]? := k.touch.block b a.1 (by rintro (e|e);exact a.2.1 e;exact a.2.2 e.symm)
theorem ZB.cell {a:Value} (c:ZB WB pv w b) (k:QT WB pv a w w'):w'.cell? (Xa b o)=w.cell? (Xa b o):=Xb3 (c.block k)
structure QdX (WB:Nat) (pv:Value) (w:World) (ao:Option Addr) (n:Nat) (nm vl:Nat->ByteArray):Prop where
 at_:Zn w ao n nm vl
 free:0<n->∀ b o,ao=some (Xa b o)->ZB WB pv w b
theorem QdX.tells {WB:Nat} {pv f:Value} {w w':World} {ao:Option Addr} {n:Nat} {nm vl:Nat->ByteArray} (d:QdX WB pv w ao n nm vl) (k:QT WB pv f w w'):QdX WB f w' ao n nm vl:=by refine ⟨λj g=>?_,λh b a e=>(d.free h b a e).tells k⟩;obtain ⟨b,a,e,p,i,l,m,o⟩:=d.at_ j g;have c:=d.free (by omega) b a e;exact ⟨b,a,e,(c.tells k).1,(c.cell k).trans i,(c.cell k).trans l,m,o⟩
theorem Zl.below (a:Zl B w WB pv P last) (b:Xb w w'):Zl B w' WB pv P last := ⟨(Xh b WB 0 a.lt).trans a.c0,(Xj b WB 0 a.lt).trans a.f0,(Xh b WB 1 a.lt).trans a.c1,(Xj b WB 1 a.lt).trans a.f1,QX a.row b,a.apart,Xb4 a.lt b.size⟩
theorem Qdt B WB pv P last w (o:Zl B w WB pv P last) (t:B<=w.heap.size) (j:P.length<=1000000) (c id pa bf d:Int) (a nm b:ByteArray) (p:a.size<=1000000) (q:nm.size<=1000000) (s:b.size<=1000000) : Xl 92 #[Xp WB,Xe w.heap.size 1 1] (w.alloc (.cells #[Xi c,Xi id,Xi pa,Xi bf,Xi d,.string a,.string nm,.string b] 29)).drew λe w'=>e=.returned (.tuple #[])/\∃ f,Zl B w' WB f (P++[⟨c,id,pa,bf,d,a,nm,b⟩]) last/\QT WB pv f w w':=by
 have k:=Q3 w #[Xi c,Xi id,Xi pa,Xi bf,Xi d,.string a,.string nm,.string b] 29 _ rfl;have h:Xb w (w.alloc (.cells #[Xi c,Xi id,Xi pa,Xi bf,Xi d,.string a,.string nm,.string b] 29)).drew:=Xd.drew;have i:w.heap.size<(w.alloc (.cells #[Xi c,Xi id,Xi pa,Xi bf,Xi d,.string a,.string nm,.string b] 29)).drew.heap.size:=by show _<(w.heap.push _).size;simp
 refine (Qmk B WB pv P last _ (o.below h) (by omega) j ⟨c,id,pa,bf,d,a,nm,b⟩ (by show a.size<=_;omega) (by show nm.size<=_;omega) (by show b.size<=_;omega) w.heap.size 0 1 i ?_).mono ?_
 ·intro r g
  have:∀ r,r<8->(#[Xi c,Xi id,Xi pa,Xi bf,Xi d,.string a,.string nm,.string b]:Array Value).toList[r]?=some (QY ⟨c,id,pa,bf,d,a,nm,b⟩ r):=by
   intro r g
   match r,g with
   | 0,_=>rfl
   | 1,_=>rfl
   | 2,_=>rfl
   | 3,_=>rfl
   | 4,_=>rfl
   | 5,_=>rfl
   | 6,_=>rfl
   | 7,_=>rfl
  have:=k r _ (this r g);rw [JO] at this;exact this
 rintro e w' ⟨rfl,f,l,m,n⟩;exact ⟨rfl,f,l,(QT.of_below h).trans ⟨n,m⟩⟩
def Qav (id:Int) (nm a:Nat->ByteArray) (b:Nat):Nat->List Qh
 | 0=>[]
 | k+1=>Qav id nm a b k++bif JL a (nm k) b then [] else [⟨5,id,0,0,0,⟨#[]⟩,nm k,⟨#[]⟩⟩]
def QaX (id:Int) (nm vl:Nat->ByteArray) (n:Nat) (a b:Nat->ByteArray):Nat->List Qh
 | 0=>[]
 | k+1=>QaX id nm vl n a b k++bif JN nm vl (a k) (b k) n then [] else [⟨4,id,0,0,0,⟨#[]⟩,a k,b k⟩]
theorem QgN {nm a:Nat->ByteArray} {b:Nat} (c:JL a (nm k) b=true):Qav id nm a b (k+1)=Qav id nm a b k:=by simp [Qav,c]
theorem QgU {nm a:Nat->ByteArray} {b:Nat} (c:JL a (nm k) b=false):Qav id nm a b (k+1)=Qav id nm a b k++[⟨5,id,0,0,0,⟨#[]⟩,nm k,⟨#[]⟩⟩]:=by simp [Qav,c]
theorem Qgo {nm a b:Nat->ByteArray} (c:JN nm vl (a k) (b k) n=true):QaX id nm vl n a b (k+1)=QaX id nm vl n a b k:=by simp [QaX,c]
theorem QgE {nm a b:Nat->ByteArray} (c:JN nm vl (a k) (b k) n=false):QaX id nm vl n a b (k+1)=QaX id nm vl n a b k++[⟨4,id,0,0,0,⟨#[]⟩,a k,b k⟩]:=by simp [QaX,c]
theorem Qfw (id:Int) (nm a:Nat->ByteArray) (b:Nat):∀ k,(Qav id nm a b k).length<=k| 0=>X0| k+1=>by have:=Qfw id nm a b k;cases c:JL a (nm k) b with| true=>rw [QgN c];omega| false=>rw [QgU c,length_append];show _+1<=_;omega
theorem Qhk (id:Int) (nm vl:Nat->ByteArray) (n:Nat) (a b:Nat->ByteArray):∀ k,(QaX id nm vl n a b k).length<=k| 0=>X0| k+1=>by have:=Qhk id nm vl n a b k;cases c:JN nm vl (a k) (b k) n with| true=>rw [Qgo c];omega| false=>rw [QgE c,length_append];show _+1<=_;omega
theorem QwE B WB pv P last w (ai:Zl B w WB pv P last) (a0:B<=w.heap.size) (aA:P.length<=900000) N (id:Int) (F:Option Addr) (f I:Nat) nm vl (a8:ZB WB pv w N) (a9:w.cell? (Xa N 0)=some (Xi id)) (ak:w.cell? (Xa N 4)=some (.slice F f I)) (aa:QdX WB pv w F f nm vl) (ay:f<=5) (a5:∀ j,j<f->(nm j).size<=1000000) ao (an ac:Nat) a g (ab:QdX WB pv w ao an a g) (az:an<=5) (a6:∀ j,j<an->(a j).size<=1000000/\(g j).size<=1000000) : Xl 93 #[Xp WB,Xp N,.slice ao an ac] w λe w'=>e=.returned (.tuple #[])/\∃ D,Zl B w' WB D (P++Qav id nm a an f++QaX id nm vl f a g an) last/\QT WB pv D w w':=by
 have aw:=Qa ai;have ad:=Qa aa;have ae:=Qa ab;have O:=Qa a8;have aj:=Qa a5;have a7:=Qa a6;clear ai aa ab a8 a5 a6;go_enter Tryz.func93,Tryz.ntmps93;go_wp2;go_loopw [7,15] (λ_ i wr=>∃ k:Nat,i=Xi (k:Int)/\k<=f/\Hid (∃ D,Zl B wr WB D (P++Qav id nm a an k) last/\QT WB pv D w wr)) (λ_ i _=>f-(intOf i).toNat);·exact ⟨0,rfl,X3,Qa ⟨pv,by simpa [Qav] using aw.out,.refl ..⟩⟩
 case round =>
  obtain ⟨k,rfl,af,G⟩:=hrel;by_cases s:k<f
  ·obtain ⟨o,H,x⟩:=G.out;obtain ⟨b,ax,rfl,al,ap,aq,ar,au⟩:=(ad.out.tells x).at_ k s;clear G;have A:=Qa H;have n:=Qa x;clear H x;go_wp2_with fail;generalize E:wr.alloc (.cells #[.string (nm k),.string (vl k)] 72)=l;have r:=Xt E;have t:l.cell? (Xa wr.heap.size 0)=some (.string (nm k)):=by have:=Q3 wr #[.string (nm k),.string (vl k)] 72 _ rfl 0 _ rfl;rw [<- E];exact this
   have u:wr.heap.size<l.heap.size:=X6 t;have L:QT WB pv o w l:=n.out.trans (.of_below r);have q:=QoE ao an ac a g wr.heap.size (nm k) l (by omega) (ae.out.tells L).at_ t u;clear E L;cases C:JL a (nm k) an with
   | true =>
    rw [C] at q;refine q.mono ?_;rintro e c ⟨rfl,d⟩;have m:=Qa (r.trans (d.mono (Xc7 u)));clear r d q;go_wp2_with fail;refine ⟨⟨k+1,rfl,s,Qa ⟨o,?_,n.out.trans (.of_below m.out)⟩⟩,?_⟩
    ·rw [QgN C];exact A.out.below m.out
    simp only [intOf];omega
   | false =>
    rw [C] at q;refine q.mono ?_;rintro e c ⟨rfl,d⟩;have m:=Qa (r.trans (d.mono (Xc7 u)));have v:=(Xh d wr.heap.size 0 u).trans t;have z:Xc c N 0 (Xi id):=(O.out.cell (n.out.trans (.of_below m.out))).trans a9;have J:wr.heap.size<c.heap.size:=X6 v;have T:=Qa (show B<=c.heap.size from Xb6 (Xb6 a0 n.out.touch.size) (Xc7 J));clear r d q t;go_wp2_with fail;have h:(λw':World=>Xc w' N 0 (Xi id)/\Xc w' wr.heap.size 0 (.string (nm k))) c.drew:=⟨z,v⟩;refine ZU (S:=(λw':World=>w'.cell? (Xa N 0)=some (Xi id)/\w'.cell? (Xa wr.heap.size 0)=some (.string (nm k)))) (by kernel_rfl) ?_;iterate 8
     apply Qbz ?_ h ?_;rotate_left
     ·(intro w' hSw;(try obtain ⟨q0,q1⟩:=hSw);simp only [Xq];go_simp;try (with_reducible rfl))
     simp only [Xq,Xr]
    refine Qbe 8 ?_;simp only [Xq];go_simp;have d:Xb wr c:=m.out;have a1:=T.out;refine ⟨.inr ?_,?_⟩
    ·exact ((((Below.refl c.heap.size c).alloc X0 _).cell (p:=(Xa N 0)) (X6 z))).trans z
    clear h d;refine Qbe 9 ?_;simp only [Xq];go_simp;refine (Qdt B WB o (P++Qav id nm a an k) last c (A.out.below m.out) (by have:=a1;omega) (by have:=Qfw id nm a an k;rw [length_append];omega) 5 id 0 0 0 ⟨#[]⟩ (nm k) ⟨#[]⟩ (by decide) (aj.out k s) (by decide)).mono ?_;rintro e av ⟨rfl,W,M,y⟩;have a2:ZB WB o c N:=O.out.tells (n.out.trans (.of_below m.out));have U:ZB WB o c wr.heap.size:=⟨J,Nat.ne_of_gt A.out.lt,λe=>Xc8 _ (A.out.row.lt _ e).2⟩;refine ⟨.inr ⟨(a2.cell y).trans z,(U.cell y).trans v⟩,?_⟩;have X:=Qa M;have Y:=Qa (n.out.trans ((QT.of_below m.out).trans y));clear M y;refine ZP (by kernel_rfl) ?_ _;go_wp2_with fail;refine ⟨⟨k+1,rfl,s,Qa ⟨W,?_,Y.out⟩⟩,?_⟩
    ·rw [QgU C,<- append_assoc];exact X.out
    simp only [intOf];omega
  have:f=k:=by omega
  subst this;have ag:=G;clear G af s;go_wp2;go_loopw [9,36] (λ_ i ah=>∃ k:Nat,i=Xi (k:Int)/\k<=an/\Hid (∃ D,Zl B ah WB D (P++Qav id nm a an f++QaX id nm vl f a g k) last/\QT WB pv D w ah)) (λ_ i _=>an-(intOf i).toNat)
  ·obtain ⟨o,H,x⟩:=ag.out;exact ⟨0,rfl,X3,Qa ⟨o,by simpa [QaX] using H,x⟩⟩
  case round =>
   clear ag;obtain ⟨k,rfl,af,G⟩:=hrel;by_cases s:k<an
   ·obtain ⟨o,H,x⟩:=G.out;obtain ⟨b,ax,rfl,al,ap,aq,ar,au⟩:=(ae.out.tells x).at_ k s;clear G;have A:=Qa H;have n:=Qa x;have a3:Xc wr N 4 (.slice F f I):=(O.out.cell x).trans ak;clear H x;go_wp2_with fail;generalize E:wr.alloc (.cells #[.string (a k),.string (g k)] 72)=l;have r:=Xt E;have t:l.cell? (Xa wr.heap.size 0)=some (.string (a k)):=by have:=Q3 wr #[.string (a k),.string (g k)] 72 _ rfl 0 _ rfl;rw [<- E];exact this
    have R:l.cell? (Xa wr.heap.size 1)=some (.string (g k)):=by have:=Q3 wr #[.string (a k),.string (g k)] 72 _ rfl 1 _ rfl;rw [JO] at this;rw [<- E];exact this
    have u:wr.heap.size<l.heap.size:=X6 t;have K:=(Xh r N 4 (X6 a3)).trans a3;have L:QT WB pv o w l.drew:=n.out.trans (.of_below r.drew);have q:=Qn9 F f I nm vl (a k) (g k) l.drew (by omega) (ad.out.tells L).at_;clear E L a3;have h:(λw':World=>Xc w' N 4 (.slice F f I)/\Xc w' wr.heap.size 0 (.string (a k))/\Xc w' wr.heap.size 1 (.string (g k))) l.drew:=⟨K,t,R⟩;refine ZU (S:=(λw':World=>w'.cell? (Xa N 4)=some (.slice F f I)/\w'.cell? (Xa wr.heap.size 0)=some (.string (a k))/\w'.cell? (Xa wr.heap.size 1)=some (.string (g k)))) (by kernel_rfl) ?_;iterate 5
     apply Qbz ?_ h ?_;rotate_left
     ·(intro w' hSw;(try obtain ⟨q0,q1,q2⟩:=hSw);simp only [Xq];go_simp;try (with_reducible rfl))
     simp only [Xq,Xr]
    refine Qbe 5 ?_;simp only [Xq];go_simp;cases C:JN nm vl (a k) (g k) f with
    | true =>
     rw [C] at q;refine q.mono ?_;rintro e c ⟨rfl,d⟩;have d:Xb l c:=(Below.refl l.heap.size l).drew.trans d;have z:=(Xh d wr.heap.size 0 u).trans t;have v:=(Xh d wr.heap.size 1 u).trans R;have a4:=(Xh d N 4 (X6 K)).trans K;have J:wr.heap.size<c.heap.size:=X6 v;have m:=Qa (r.trans (d.mono (Xc7 u)));have T:=Qa (show B<=c.heap.size from Xb6 (Xb6 a0 n.out.touch.size) (Xc7 J));clear h;have h:(λw':World=>Xc w' N 4 (.slice F f I)/\Xc w' wr.heap.size 0 (.string (a k))/\Xc w' wr.heap.size 1 (.string (g k))) c:=⟨a4,z,v⟩;refine ⟨.inr h,?_⟩;clear r d q t R K;try simp only [Xr]
     refine J9 6 ?_;apply Qbh ?_ h ?_;rotate_left
     ·(intro w' hSw;(try obtain ⟨q0,q1,q2⟩:=hSw);simp only [Xq];go_simp;try (with_reducible rfl))
     simp only [Xq,Xr];refine ZP (by kernel_rfl) ?_ _;clear h;go_wp2_with fail;refine ⟨⟨k+1,rfl,s,Qa ⟨o,?_,n.out.trans (.of_below m.out)⟩⟩,?_⟩
     ·rw [Qgo C];exact A.out.below m.out
     simp only [intOf];omega
    | false =>
     rw [C] at q;refine q.mono ?_;rintro e c ⟨rfl,d⟩;have d:Xb l c:=(Below.refl l.heap.size l).drew.trans d;have z:=(Xh d wr.heap.size 0 u).trans t;have v:=(Xh d wr.heap.size 1 u).trans R;have a4:=(Xh d N 4 (X6 K)).trans K;have J:wr.heap.size<c.heap.size:=X6 v;have m:=Qa (r.trans (d.mono (Xc7 u)));have T:=Qa (show B<=c.heap.size from Xb6 (Xb6 a0 n.out.touch.size) (Xc7 J));clear h;have h:(λw':World=>Xc w' N 4 (.slice F f I)/\Xc w' wr.heap.size 0 (.string (a k))/\Xc w' wr.heap.size 1 (.string (g k))) c:=⟨a4,z,v⟩;refine ⟨.inr h,?_⟩;clear r d q t R K;try simp only [Xr]
     refine J9 6 ?_;apply Qbh ?_ h ?_;rotate_left
     ·(intro w' hSw;(try obtain ⟨q0,q1,q2⟩:=hSw);simp only [Xq];go_simp;try (with_reducible rfl))
     simp only [Xq,Xr];refine ZP (by kernel_rfl) ?_ _;clear h;have V:Xc c N 0 (Xi id):=(O.out.cell (n.out.trans (.of_below m.out))).trans a9;go_wp2_with fail;have h:(λw':World=>Xc w' N 0 (Xi id)/\Xc w' wr.heap.size 0 (.string (a k))/\Xc w' wr.heap.size 1 (.string (g k))) c.drew:=⟨V,z,v⟩;refine ZU (S:=(λw':World=>w'.cell? (Xa N 0)=some (Xi id)/\w'.cell? (Xa wr.heap.size 0)=some (.string (a k))/\w'.cell? (Xa wr.heap.size 1)=some (.string (g k)))) (by kernel_rfl) ?_;iterate 10
      apply Qbz ?_ h ?_;rotate_left
      ·(intro w' hSw;(try obtain ⟨q0,q1,q2⟩:=hSw);simp only [Xq];go_simp;try (with_reducible rfl))
      simp only [Xq,Xr]
     refine Qbe 10 ?_;simp only [Xq];go_simp;have a1:=T.out;refine ⟨.inr ?_,?_⟩
     ·exact ((((Below.refl c.heap.size c).alloc X0 _).cell (p:=(Xa N 0)) (X6 V))).trans V
     clear h;refine Qbe 11 ?_;simp only [Xq];go_simp;refine (Qdt B WB o (P++Qav id nm a an f++QaX id nm vl f a g k) last c (A.out.below m.out) a1 (by have:=Qfw id nm a an f;have:=Qhk id nm vl f a g k;rw [length_append,length_append];omega) 4 id 0 0 0 ⟨#[]⟩ (a k) (g k) (by decide) (a7.out k s).1 (a7.out k s).2).mono ?_;rintro e av ⟨rfl,W,M,y⟩;have a2:ZB WB o c N:=O.out.tells (n.out.trans (.of_below m.out));have U:ZB WB o c wr.heap.size:=⟨J,Nat.ne_of_gt A.out.lt,λe=>Xc8 _ (A.out.row.lt _ e).2⟩;refine ⟨.inr ⟨(a2.cell y).trans V,(U.cell y).trans z,(U.cell y).trans v⟩,?_⟩;have X:=Qa M;have Y:=Qa (n.out.trans ((QT.of_below m.out).trans y));clear M y;refine ZP (by kernel_rfl) ?_ _;go_wp2_with fail;refine ⟨⟨k+1,rfl,s,Qa ⟨W,?_,Y.out⟩⟩,?_⟩
     ·rw [QgE C,<- append_assoc];exact X.out
     simp only [intOf];omega
   have:an=k:=by omega
   subst this;go_wp2;refine bodyPost_end (results_none rfl _ _ _) rfl ?_;exact ⟨rfl,G.out⟩
theorem QgT (x:Int) (w:World):Xl 117 #[Xi x] w λe w'=>e=.returned (.bool (x==-1))/\w'=w:=by go_enter Tryz.func117,Tryz.ntmps117;go_wp2;go_ret;exact ⟨rfl,rfl⟩
theorem Qb0 {l:List Int} (a:w.ownsRow B 3 1 (.slice ao n c) n (Qs l)) (k:j<n):∃ g,∃ b:j<l.length,ao=some (Xa g 0)/\w.cell? (Xa g j)=some (Xi l[j])/\B<=g/\g<w.heap.size:=by
 have b:l.length=n:=by have:=a.1;rw [QaR] at this;omega
 rcases a.2 with ⟨e,m⟩|⟨g,h,i,e,d,f,_⟩
 ·omega
 simp at e;obtain ⟨rfl,rfl⟩:=e;refine ⟨g,by omega,rfl,?_,d,(Xd0.1 f).1⟩;rw [a.cellAt j (by omega)];unfold Qs;rw [getElem?_map,getElem?_eq_getElem (by omega)];rfl
def Qbt (p:Int->Bool) (l:List Int):Int:=match l.findIdx? p with|some k=>(k:Int)|none=>-1
theorem Qle {p:Int->Bool} {l:List Int} (c:k<l.length) (d:p l[k]=true) (b:∀ j,(a:j<l.length)->j<k->p l[j]=false):Qbt p l=k:=by
 unfold Qbt;have:l.findIdx? p=some k:=by rw [findIdx?_eq_some_iff_getElem];exact ⟨c,d,λj a=>by simpa using b j (by omega) a⟩
 rw [this]
theorem QlW {p:Int->Bool} {l:List Int} (b:∀ j,(a:j<l.length)->p l[j]=false):Qbt p l=-1:=by
 unfold Qbt;have:l.findIdx? p=none:=by rw [findIdx?_eq_none_iff];intro x c;obtain ⟨j,a,rfl⟩:=Xa3 c;exact b j a
 rw [this]
theorem Qrz (B:Nat) (ao:Option Addr) (n c:Nat) (l:List Int) (x:Int) (w:World) (a:w.ownsRow B 3 1 (.slice ao n c) n (Qs l)) (u:n<=1000000) : Xl 134 #[.slice ao n c,Xi x] w λe w'=>e=.returned (Xi (Qbt (λd=>x==d) l))/\w'=w:=by
 have s:=Qa a;have v:l.length=n:=by have:=a.1;rw [QaR] at this;omega
 clear a;go_enter Tryz.func134,Tryz.ntmps134;go_wp2;go_loopw [5,8] (λ_ i wr=>∃ j:Nat,j<=n/\i=Xi j/\wr=w/\Hid (∀ t,(b:t<l.length)->t<j->(x==l[t])=false)) (λ_ i _=>n-(intOf i).toNat);·exact ⟨0,X3,rfl,rfl,Qa λt _ a=>absurd a (Xb7 _)⟩
 case round =>
  obtain ⟨j,y,rfl,rfl,f⟩:=hrel;by_cases k:j<n
  ·obtain ⟨g,m,rfl,z,_,_⟩:=Qb0 s.out k;have o:(j:Int)<(n:Int):=by omega
   by_cases e:(x==l[j])=true
   ·have h:=Qa (Qle (p:=λd=>x==d) m e (λt b a=>f.out t b a));go_wp2;go_ret;exact ⟨by rw [h.out];rfl,rfl⟩
   have e:(x==l[j])=false:=by simpa using e
   have q:Hid (∀ t,(b:t<l.length)->t<j+1->(x==l[t])=false):=Qa λt b a=>by
    by_cases r:t=j
    ·subst r;exact e
    exact f.out t b (by omega)
   go_wp2;go_roundw;·exact ⟨j+1,by omega,by go_num,by trivial,q⟩
   simp [intOf];omega
  have o:¬ (j:Int)<(n:Int):=by omega
  have h:=Qa (QlW (p:=λd=>x==d) (l:=l) (λt b=>f.out t b (by omega)));go_wp2;go_ret;exact ⟨by rw [h.out];rfl,rfl⟩
theorem QvQ (x:Int) (l:List Int):decide (0<=Qbt (λc=>x==c) l)=l.contains x:=by
 unfold Qbt;cases a:l.findIdx? (λc=>x==c) with
 | none =>
  rw [findIdx?_eq_none_iff] at a;have:l.contains x=false:=by
   cases d:l.contains x with
   | false=>rfl
   | true =>
    have b:x ∈ l:=by simpa using d
    have:=a x b;simp at this
  rw [this];rfl
 | some k =>
  rw [findIdx?_eq_some_iff_getElem] at a;obtain ⟨f,e,_⟩:=a;have b:x ∈ l:=by
   have e:x=l[k]:=by simpa using e
   rw [e];exact Xa0 f
  have:l.contains x=true:=by simpa using b
  rw [this];simp
theorem QuY (B:Nat) (ao:Option Addr) (n c:Nat) (l:List Int) (x:Int) (w:World) (a:w.ownsRow B 3 1 (.slice ao n c) n (Qs l)) (b:n<=1000000) : Xl 129 #[.slice ao n c,Xi x] w λe w'=>e=.returned (.bool (l.contains x))/\w'=w:=by have d:=Qa (Qrz B ao n c l x w a b);have f:=Qa (QvQ x l);clear a;generalize Qbt (λg=>x==g) l=r at *;go_enter Tryz.func129,Tryz.ntmps129;go_wp2_with (first|(go_at_call 134;refine (Qb d).mono ?_;rintro e w1 ⟨rfl,rfl⟩));go_ret;refine ⟨?_,rfl⟩;rw [<- f.out];simp
def Qab (x:Int):Bool:=x==-1
theorem QuR (B:Nat) (ao:Option Addr) (n c:Nat) (l:List Int) (w:World) (a:w.ownsRow B 3 1 (.slice ao n c) n (Qs l)) (u:n<=1000000) : Xl 131 #[.slice ao n c,.func (.func 117) #[] #[]] w λe w'=>e=.returned (Xi (Qbt Qab l))/\w'=w:=by
 have s:=Qa a;have v:l.length=n:=by have:=a.1;rw [QaR] at this;omega
 clear a;go_enter Tryz.func131,Tryz.ntmps131;go_wp2;go_loopw [5,8] (λ_ i wr=>∃ j:Nat,j<=n/\i=Xi j/\wr=w/\Hid (∀ t,(b:t<l.length)->t<j->Qab l[t]=false)) (λ_ i _=>n-(intOf i).toNat);·exact ⟨0,X3,rfl,rfl,Qa λt _ a=>absurd a (Xb7 _)⟩
 case round =>
  obtain ⟨j,x,rfl,rfl,f⟩:=hrel;by_cases k:j<n
  ·obtain ⟨g,m,rfl,y,_,_⟩:=Qb0 s.out k;have o:(j:Int)<(n:Int):=by omega
   have d:=Qa (QgT l[j] wr);by_cases e:Qab l[j]=true
   ·have h:=Qa (Qle (p:=Qab) m e (λt b a=>f.out t b a));have e':(l[j]==-1)=true:=e;rw [e'] at d;go_wp2_with (first|(go_at_call 117;refine (Qb d).mono ?_;rintro e w1 ⟨rfl,rfl⟩));go_ret;exact ⟨by rw [h.out];rfl,rfl⟩
   have e:Qab l[j]=false:=by simpa using e
   have q:Hid (∀ t,(b:t<l.length)->t<j+1->Qab l[t]=false):=Qa λt b a=>by
    by_cases r:t=j
    ·subst r;exact e
    exact f.out t b (by omega)
   have e':(l[j]==-1)=false:=e;rw [e'] at d;go_wp2_with (first|(go_at_call 117;refine (Qb d).mono ?_;rintro e w1 ⟨rfl,rfl⟩));go_roundw;·exact ⟨j+1,by omega,by go_num,by trivial,q⟩
   simp [intOf];omega
  have o:¬ (j:Int)<(n:Int):=by omega
  have h:=Qa (QlW (p:=Qab) (l:=l) (λt b=>f.out t b (by omega)));go_wp2;go_ret;exact ⟨by rw [h.out];rfl,rfl⟩
theorem Qux B WB pv P last w (o:Zl B w WB pv P last) (t:B<=w.heap.size) (j:P.length<=1000000) (c id pa bf d:Int) (a nm b:ByteArray) (p:a.size<=1000000) (q:nm.size<=1000000) (s:b.size<=1000000) : Xl 92 #[Xp WB,Xe w.heap.size 1 1] (w.alloc (.cells #[Xi c,Xi id,Xi pa,Xi bf,Xi d,.string a,.string nm,.string b] 29)) λe w'=>e=.returned (.tuple #[])/\∃ f,Zl B w' WB f (P++[⟨c,id,pa,bf,d,a,nm,b⟩]) last/\QT WB pv f w w':=by
 have k:=Q3 w #[Xi c,Xi id,Xi pa,Xi bf,Xi d,.string a,.string nm,.string b] 29 _ rfl;have h:Xb w (w.alloc (.cells #[Xi c,Xi id,Xi pa,Xi bf,Xi d,.string a,.string nm,.string b] 29)):=Xd;have i:w.heap.size<(w.alloc (.cells #[Xi c,Xi id,Xi pa,Xi bf,Xi d,.string a,.string nm,.string b] 29)).heap.size:=by show _<(w.heap.push _).size;simp
 refine (Qmk B WB pv P last _ (o.below h) (by omega) j ⟨c,id,pa,bf,d,a,nm,b⟩ (by show a.size<=_;omega) (by show nm.size<=_;omega) (by show b.size<=_;omega) w.heap.size 0 1 i ?_).mono ?_
 ·intro r g
  have:∀ r,r<8->(#[Xi c,Xi id,Xi pa,Xi bf,Xi d,.string a,.string nm,.string b]:Array Value).toList[r]?=some (QY ⟨c,id,pa,bf,d,a,nm,b⟩ r):=by
   intro r g
   match r,g with
   | 0,_=>rfl
   | 1,_=>rfl
   | 2,_=>rfl
   | 3,_=>rfl
   | 4,_=>rfl
   | 5,_=>rfl
   | 6,_=>rfl
   | 7,_=>rfl
  have:=k r _ (this r g);rw [JO] at this;exact this
 rintro e w' ⟨rfl,f,l,m,n⟩;exact ⟨rfl,f,l,(QT.of_below h).trans ⟨n,m⟩⟩
structure QdC (WB:Nat) (pv:Value) (w:World) (C:Nat) (v:Value) (n:Nat) (l:List Int):Prop where
 row:w.ownsRow C 3 1 v n (Qs l)
 free:∀ b,v.ownBlock=some b->ZB WB pv w b
theorem QdC.tells {WB:Nat} {pv c:Value} {w w':World} {C:Nat} {v:Value} {n:Nat} {l:List Int} (a:QdC WB pv w C v n l) (k:QT WB pv c w w'):QdC WB c w' C v n l := ⟨Q8 a.row λb e=>(a.free b e).block k,λb e=>(a.free b e).tells k⟩
def Qe4 (WB:Nat) (pv:Value) (w:World) (a:Option Addr) (n:Nat) (b:Nat->Int):Prop :=
 ∀ j,j<n->∃ g P,a=some (Xa g 0)/\ZB WB pv w g/\ZB WB pv w P/\w.cell? (Xa g j)=some (Xp P)/\w.cell? (Xa P 0)=some (Xi (b j))
theorem Qe4.tells {WB:Nat} {pv a:Value} {w w':World} {b:Option Addr} {n:Nat} {f:Nat->Int} (m:Qe4 WB pv w b n f) (k:QT WB pv a w w'):Qe4 WB a w' b n f:=by intro j h;obtain ⟨g,P,e,c,d,i,l⟩:=m j h;exact ⟨g,P,e,c.tells k,d.tells k,(c.cell k).trans i,(d.cell k).trans l⟩
def ZK (a:Nat->Int) (l:List Int):Nat->List Qh
 | 0=>[]
 | k+1=>ZK a l k++bif l.contains (k:Int) then [] else [⟨3,a k,0,0,0,⟨#[]⟩,⟨#[]⟩,⟨#[]⟩⟩]
theorem QgH {a:Nat->Int} {l:List Int} (b:l.contains (k:Int)=true):ZK a l (k+1)=ZK a l k:=by simp only [ZK,b,cond_true,append_nil]
theorem Qg9 {a:Nat->Int} {l:List Int} (b:l.contains (k:Int)=false):ZK a l (k+1)=ZK a l k++[⟨3,a k,0,0,0,⟨#[]⟩,⟨#[]⟩,⟨#[]⟩⟩]:=by simp only [ZK,b,cond_false]
theorem Qhp (a:Nat->Int) (l:List Int):∀ k,(ZK a l k).length<=k| 0=>X0| k+1=>by have:=Qhp a l k;cases b:l.contains (k:Int) with| true=>rw [QgH b];omega| false=>rw [Qg9 b,length_append];show _+1<=_;omega
theorem QrU B WB pv P last w (G:Zl B w WB pv P last) (L:B<=w.heap.size) (V:P.length<=900000) N (x:Option Addr) (n M:Nat) a (y:ZB WB pv w N) (W:w.cell? (Xa N 6)=some (.slice x n M)) (z:Qe4 WB pv w x n a) (X:n<=1000) C (o:Option Addr) (m p:Nat) l (c:QdC WB pv w C (.slice o m p) m l) (Y:m<=1000) : Xl 113 #[Xp WB,Xp N,.slice o m p] w λe w'=>e=.returned (.tuple #[])/\∃ b,Zl B w' WB b (P++ZK a l n) last/\QT WB pv b w w':=by
 have U:=Qa G;have O:=Qa z;have a0:=Qa y;have R:=Qa c;clear G z y c;go_enter Tryz.func113,Tryz.ntmps113;go_wp2;go_loopw [6,7,13] (λ_ _ i wr=>∃ k:Nat,i=Xi (k:Int)/\k<=n/\Hid (∃ b,Zl B wr WB b (P++ZK a l k) last/\QT WB pv b w wr)) (λ_ _ i _=>n-(intOf i).toNat);·exact ⟨0,rfl,X3,Qa ⟨pv,by simpa [ZK] using U.out,.refl ..⟩⟩
 case round =>
  obtain ⟨k,rfl,a1,q⟩:=hrel;by_cases h:k<n
  ·obtain ⟨j,r,d⟩:=q.out;obtain ⟨g,D,rfl,A,E,a2,a3⟩:=(O.out.tells d) k h;have f:=QuY C o m p l (k:Int) wr (R.out.tells d).row (by omega);clear q;have s:=Qa r;have t:=Qa d;have S:B<=wr.heap.size:=Xb6 L d.touch.size;have a4:=A.1;have a5:=E.1;clear r d A E;cases c:l.contains (k:Int) with
   | true =>
    rw [c] at f;go_wp2_with (first|(go_at_call 129;refine f.mono ?_;rintro e T ⟨rfl,rfl⟩));refine ⟨⟨k+1,rfl,h,Qa ⟨j,?_,t.out⟩⟩,?_⟩
    ·rw [QgH c];exact s.out
    simp only [intOf];omega
   | false =>
    rw [c] at f;have F:∀ w1,w1=wr.alloc (.cells #[Xi 3,Xi (a k),Xi 0,Xi 0,Xi 0,Xo,Xo,Xo] 29)->Xl 92 #[Xp WB,Xe wr.heap.size 1 1] w1 λe w'=>e=.returned (.tuple #[])/\∃ b,Zl B w' WB b (P++ZK a l k++[⟨3,a k,0,0,0,⟨#[]⟩,⟨#[]⟩,⟨#[]⟩⟩]) last/\QT WB j b wr w':=by rintro _ rfl;exact Qux B WB j (P++ZK a l k) last wr s.out S (by have:=Qhp a l k;rw [length_append];omega) 3 (a k) 0 0 0 ⟨#[]⟩ ⟨#[]⟩ ⟨#[]⟩ (by decide) (by decide) (by decide)
    have H:=Qa F;clear F;go_wp2_with (first|(go_at_call 129;refine f.mono ?_;rintro e T ⟨rfl,rfl⟩)|(go_at_call 92;refine (Qb H _ rfl).mono ?_;rintro e a6 ⟨rfl,I,u,v⟩;have J:=Qa u;have K:=Qa (t.out.trans v);clear u v));refine ⟨⟨k+1,rfl,h,Qa ⟨I,?_,K.out⟩⟩,?_⟩
    ·rw [Qg9 c,<- append_assoc];exact J.out
    simp only [intOf];omega
  have:n=k:=by omega
  subst this;go_wp2;refine bodyPost_end (results_none rfl _ _ _) rfl ?_;exact ⟨rfl,q.out⟩
theorem Qlx (WB N:Nat) (n c k:Nat) (g D:Nat) (p:k<n) (d f:Int) (h i:ByteArray) (j:Value) (w:World) (l:Xc w N 6 (Xe g n c)) (m:Xc w g k (Xp D)) : Xl 118 #[Xp WB,Xp N,Xi (k:Int),.agg #[Xi d,.string h,Xi f,j,.string i]] w λe w'=>e=.returned (Xp D)/\Xb w w':=by
 have a:((k:Int)==-1)=false:=Xd5.2 (by omega);have b:∀ w1:World,Xl 117 #[Xi (k:Int)] w1 λe w'=>e=.returned (.bool false)/\w'=w1:=λw1=>by have:=QgT (k:Int) w1;rw [a] at this;exact this
 have o:=Qa b;clear b a;have q:N<w.heap.size:=X6 l;have r:g<w.heap.size:=X6 m;go_enter Tryz.func118,Tryz.ntmps118;go_wp2_with (first|(go_at_call 117;refine (Qb o _).mono ?_;rintro e w1 ⟨rfl,rfl⟩));go_ret;exact ⟨rfl,Xd⟩
theorem QjM B WB pv P last w (t:Zl B w WB pv P last) (af:B<=w.heap.size) (ag:P.length<=900000) (ad:0<=last) (ae:last<=4611686018427387904) (N:Nat) (d f:Int) (a c:ByteArray) (L:Value) (a1:a.size<=1000000) (a2:c.size<=1000000) : Xl 118 #[Xp WB,Xp N,Xi (-1),.agg #[Xi d,.string a,Xi f,L,.string c]] w λe w'=>∃ D A,e=.returned (Xp D)/\w.heap.size<=D/\ZB WB A w' D/\w'.heap[D]?=some (.cells #[Xi (last+1),Xi f,.string a,.string c,Xv,.pointer none,Xv] 138 (0,0))/\Zl B w' WB A (P++[⟨1,last+1,0,0,f,a,⟨#[]⟩,c⟩]) (last+1)/\QT WB pv A w w':=by
 have j:=Qa t;have T:∀ w1:World,Xl 117 #[Xi (-1)] w1 λe w'=>e=.returned (.bool true)/\w'=w1:=λw1=>QgT (-1) w1;have a9:=Qa T;have U:=t.c1;have V:=t.f1;have W:=t.lt;clear t T;go_enter Tryz.func118,Tryz.ntmps118;go_wp2_with (first|(go_at_call 117;refine (Qb a9 _).mono ?_;rintro e w1 ⟨rfl,rfl⟩));have l:(w.setCell (Xa WB 1) (Xi (last+1))).heap.size=w.heap.size:=QJ _ _ _;have C:Zl B (w.setCell (Xa WB 1) (Xi (last+1))) WB pv P (last+1) := ⟨(Xb9 _ _ _ _ (λe=>by cases e)).trans j.out.c0,(Xd4 ..).trans j.out.f0,Xc9 _ _ _ U,(Xd4 ..).trans V,Qbl j.out.row (.inr λe=>j.out.apart _ e rfl),j.out.apart,by rw [l];exact W⟩;have E:QT WB pv pv w (w.setCell (Xa WB 1) (Xi (last+1))):=⟨⟨rfl,rfl,rfl,Nat.le_of_eq l.symm,λb _ aa=>X5 (λe=>aa (.inl e))⟩,λ_ e=>.inl e⟩;generalize w.setCell (Xa WB 1) (Xi (last+1))=w1 at C E l ⊢;generalize F:w1.alloc (.cells #[Xi d,.string a,Xi f,L,.string c] 33)=h;have G:=Xt F;have m:=QnL w1 #[Xi d,.string a,Xi f,L,.string c] 33 w.heap.size l.symm _ rfl;rw [F] at m;have u:h.cell? (Xa w.heap.size 1)=some (.string a):=by have:=m 1 _ rfl;rw [JO] at this;exact this
 have M:h.cell? (Xa w.heap.size 2)=some (Xi f):=by have:=m 2 _ rfl;rw [JO] at this;exact this
 have O:h.cell? (Xa w.heap.size 4)=some (.string c):=by have:=m 4 _ rfl;rw [JO] at this;exact this
 have H:=C.below G;have R:=E.trans (.of_below G);have ab:w.heap.size<h.heap.size:=X6 u;have X:ZB WB pv h w.heap.size:=⟨ab,Nat.ne_of_gt W,λe=>Xc8 _ (j.out.row.lt _ e).2⟩;have v:=H.c1;have a3:=Qa H;have a4:=Qa R;have I:=Qa X;clear C E F G m H R X l U V j;have n:(λw':World=>Xc w' WB 1 (Xi (last+1))/\Xc w' w.heap.size 1 (.string a)/\Xc w' w.heap.size 2 (Xi f)/\Xc w' w.heap.size 4 (.string c)) h.drew:=⟨v,u,M,O⟩;refine ZU (S:=(λw':World=>w'.cell? (Xa WB 1)=some (Xi (last+1))/\w'.cell? (Xa w.heap.size 1)=some (.string a)/\w'.cell? (Xa w.heap.size 2)=some (Xi f)/\w'.cell? (Xa w.heap.size 4)=some (.string c))) (by kernel_rfl) ?_;iterate 12
  apply Qbz ?_ n ?_;rotate_left
  ·(intro w' hSw;(try obtain ⟨q0,q1,q2,q3⟩:=hSw);simp only [Xq];go_simp;try (with_reducible rfl))
  simp only [Xq,Xr]
 refine Qbe 12 ?_;simp only [Xq];go_simp;refine ⟨.inr ?_,?_⟩
 ·exact ((((Below.refl h.heap.size h).alloc X0 _).cell (p:=(Xa WB 1)) (X6 v))).trans v
 clear n;refine Qbe 13 ?_;simp only [Xq];go_simp;refine (Qdt B WB pv P (last+1) h a3.out (by omega) (by omega) 1 (last+1) 0 0 f a ⟨#[]⟩ c a1 (by decide) a2).mono ?_;rintro e g ⟨rfl,a5,J,o⟩;have r:=J.c1;have s:=(I.out.cell o).trans u;have x:=(I.out.cell o).trans M;have y:=(I.out.cell o).trans O;refine ⟨.inr ⟨r,s,x,y⟩,?_⟩;have z:w.heap.size<g.heap.size:=X6 s;have K:=Qa J;have a6:=Qa (a4.out.trans o);clear J o v u M O;refine ZP (by kernel_rfl) ?_ _;go_wp2_with fail;have n:(λw':World=>Xc w' WB 1 (Xi (last+1))/\Xc w' w.heap.size 1 (.string a)/\Xc w' w.heap.size 2 (Xi f)/\Xc w' w.heap.size 4 (.string c)) g.drew:=⟨r,s,x,y⟩;refine ZU (S:=(λw':World=>w'.cell? (Xa WB 1)=some (Xi (last+1))/\w'.cell? (Xa w.heap.size 1)=some (.string a)/\w'.cell? (Xa w.heap.size 2)=some (Xi f)/\w'.cell? (Xa w.heap.size 4)=some (.string c))) (by kernel_rfl) ?_;iterate 11
  apply Qbz ?_ n ?_;rotate_left
  ·(intro w' hSw;(try obtain ⟨q0,q1,q2,q3⟩:=hSw);simp only [Xq];go_simp;try (with_reducible rfl))
  simp only [Xq,Xr]
 refine Qbe 11 ?_;simp only [Xq];go_simp;have ac:∃ i,i=g.alloc (.cells #[Xi (last+1),Xi f,.string a,.string c,Xv,.pointer none,Xv] 138):=⟨_,rfl⟩;obtain ⟨i,q⟩:=ac;rw [<- q];have k:Xb g i:=by rw [q];exact Xd
 have ah:i.heap.size=g.heap.size+1:=by rw [q];simp
 have Y:i.heap[g.heap.size]?=some (.cells #[Xi (last+1),Xi f,.string a,.string c,Xv,.pointer none,Xv] 138 (0,0)):=by rw [q];show (g.heap.push _)[g.heap.size]?=_;simp
 have u0:=(Xh k WB 1 (X6 r)).trans r;have u1:=(Xh k w.heap.size 1 z).trans s;have u2:=(Xh k w.heap.size 2 z).trans x;have u4:=(Xh k w.heap.size 4 z).trans y;refine ⟨.inr u0,?_⟩;have a7:=Qa k;have a8:=Qa Y;clear n q k Y r s x y;refine Qbe 12 ?_;simp only [Xq];go_simp;refine ZP (by kernel_rfl) ?_ _;go_wp2;go_ret;have a0:Xb g i.drew:=a7.out.drew;refine ⟨g.heap.size,a5,rfl,Xc7 z,⟨by show _<i.heap.size;omega,Nat.ne_of_gt K.out.lt,λe=>Xc8 _ (K.out.row.lt _ e).2⟩,a8.out,K.out.below a0,a6.out.trans (.of_below a0)⟩
end Go.Proofs.YtobgcaemnpkbmaaGreat
