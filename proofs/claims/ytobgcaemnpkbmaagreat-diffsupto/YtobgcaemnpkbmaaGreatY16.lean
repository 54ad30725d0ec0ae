import Derived.Test.YtobgcaemnpkbmaaGreatY15
import Derived.Test.YtobgcaemnpkbmaaGreatY09
import Derived.Carry
namespace Go.Proofs.YtobgcaemnpkbmaaGreat
set_option maxRecDepth 100000
set_option maxHeartbeats 8000000
open Go.RowKit List
variable {last:Int} {nb:Int->Nat} {W:List (Nat × Int)} {R:List RN} {xs:List Value} {AB B B' b c i j k mb n q size:Nat} {vl:Nat->ByteArray} {L:Nat->Qd} {ao:Option Addr} {rt:Option Nat} {ρ ρ':Qz} {e:TypeId} {pv v:Value} {w w' w2 w3 w4 wr:World}
def Qs (l:List Int):List Value:=l.map λi=>Xi i
theorem QaR (l:List Int):(Qs l).length=l.length:=by unfold Qs;simp
theorem QcR (l:List Int) (i:Int):Qs (l++[i])=Qs l++[Xi i]:=by unfold Qs;simp
theorem Qb1 (c:w'.heap[b]?=w.heap[b]?) (a:Nat):w'.frozen? (Xa b a)=w.frozen? (Xa b a):=by simp only [World.frozen?,c]
theorem QrQ {D f:Nat} {d:List Int} (i:Int) (q:Xc w D 0 v) (r:Xf w D 0) (s:Xc w f 0 (Xi i)) (I:D<B) (L:f<B) (a2:B<=w.heap.size) (a3:d.length<=800) (k:w.ownsRow B 3 1 v d.length (Qs d)) : Xl 69 #[Xp f,Xp D] w λe w'=>e=.returned (.tuple #[])/\∃ t,w'.cell? (Xa D 0)=some t/\w'.frozen? (Xa D 0)=false/\w'.ownsRow B 3 1 t (d++[i]).length (Qs (d++[i]))/\w.heap.size<=w'.heap.size/\(∀ b,b<B->b≠D->w'.heap[b]?=w.heap[b]?)/\w'.os=w.os/\w'.tape=w.tape/\w'.output=w.output:=by
 obtain ⟨T,U,M,N,O⟩:=info_parts QbF;obtain ⟨ao,c,rfl⟩:=Qy k;have a4:(Value.slice ao d.length c).ownBlock=none \/ (Value.slice ao d.length c).ownBlock≠some D:=by cases h:(Value.slice ao d.length c).ownBlock with| none=>exact .inl rfl| some b=>right;intro e;have:=(k.lt b h).1;cases e;omega
 have a5:(Value.slice ao d.length c).ownBlock=none \/ (Value.slice ao d.length c).ownBlock≠some f:=by cases h:(Value.slice ao d.length c).ownBlock with| none=>exact .inl rfl| some b=>right;intro e;have:=(k.lt b h).1;cases e;omega
 have E:=Qa k;clear k;go_enter Tryz.func69,Tryz.ntmps69;have F:(λw'=>Xf w' D 0/\Xc w' D 0 (.slice ao d.length c)/\Xc w' f 0 (Xi i)) w.drew:=⟨r,q,s⟩;refine ZU (S:=(λw'=>w'.frozen? (Xa D 0)=false/\w'.cell? (Xa D 0)=some (.slice ao d.length c)/\w'.cell? (Xa f 0)=some (Xi i))) (by kernel_rfl) ?_;iterate 5
  apply Qbz ?_ F ?_;rotate_left
  ·(intro w' hSw;(try dsimp only at hSw);simp only [Xq];go_simp;try (with_reducible rfl))
  simp only [Xq,Xr]
 refine Qbe 5 ?_;simp only [Xq];go_simp;generalize m:w.alloc (.cells #[Xi i] 3)=w1;have g:=Xt m;have a6:=X1 m;have C:∀ a,some ((Xa w.heap.size 0):Addr)=some a->∀ j u,[Value.int .i64 i][j]?=some u->w1.cell? (a.add j)=some u:=by rw [<- m];exact Q3 w #[Xi i] 3
 have y:=(Xh g D 0 (by (try simp);omega)).trans q;have z:=(Xh g f 0 (by (try simp);omega)).trans s;have A:=(Xj g D 0 (by (try simp);omega)).trans r;refine ⟨.inr ⟨A,y,z⟩,?_⟩;clear m F q s r;refine Qbe 6 ?_;simp only [Xq];refine QeZ w1.drew _ _ 69 (by rfl) B 3 T _ 1 8 Tryz.underlying69 U M N O rfl (.slice ao d.length c) d.length (Qs d) (by rfl) (QX E.out g.drew) (some (Xa w.heap.size 0)) 1 1 [Xi i] (by rfl) (by simp) rfl (λa V j u W=>C a V j u W) (by simp [Value.oneCell']) (by omega) (by omega) (show B<=w1.heap.size by omega) ?_;intro t w2 o p;obtain ⟨X,Y,rfl⟩:=Qy o;have G:∀ b,Value.ownBlock (.slice ao d.length c)=some b->B<=b:=λb e=>(E.out.lt b e).1;have l:∀ b,b<w1.heap.size->b<B->w2.heap[b]?=w1.heap[b]?:=λb h a7=>p.by.block b h (λe=>by have:=G b e.symm;omega);have J:=(Xk D 0 (l D (by omega) I)).trans y;have a0:=(Xk f 0 (l f (by omega) L)).trans z;have K:=(Xm D 0 (l D (by omega) I)).trans A;refine ⟨.inr ⟨K,J,a0⟩,?_⟩;have H:=Qa o;have n:=Qa p;have P:=Qa l;clear o p l y z A C G;try simp only [Xr]
 refine Qbe 7 ?_;simp only [Xq];go_simp;refine ⟨by kernel_rfl,?_⟩;refine ZP (by kernel_rfl) ?_ _;refine bodyPost_end (results_none rfl _ _ _) rfl ⟨rfl,.slice X (d.length+1) Y,?_,?_,?_,?_,?_,?_,?_,?_⟩
 ·exact Xc9 _ _ _ J
 ·rw [World.frozen?_setCell];exact K
 ·rw [QcR];exact Q8 H.out λb a1=>X5 (λx=>by have x:b=D:=x;have:=(H.out.lt b a1).1;omega)
 ·rw [QJ];have:=n.out.size;have a8:w1.drew.heap.size=w1.heap.size:=rfl;omega
 ·intro b h R;rw [X5 (λx=>R x),P.out b (by omega) h,g.block b (by omega)]
 ·exact n.out.by.os.trans g.os
 ·exact n.out.by.tape.trans g.tape
 exact n.out.by.output.trans g.output
theorem Qls (b:Qx R) {L:List Int} (a:L.Nodup) (d:∀ x,x ∈ L->∃ n,n ∈ R/\n.id=x):L.length<=R.length:=by
 have:=QkV b.nodup a λx c=>by obtain ⟨n,a,e⟩:=d x c;exact Xa5.2 ⟨n,a,e⟩
 omega
def Qib (R:List RN) (w:World) (D B:Nat) (a:List Int) (w':World):Prop :=
 (a.Nodup/\∀ x,x ∈ a->∃ n,n ∈ R/\n.id=x)/\∃ v,w'.cell? (Xa D 0)=some v/\w'.frozen? (Xa D 0)=false/\w'.ownsRow B 3 1 v a.length (Qs a)/\B<=w'.heap.size/\(∀ b,b<B->b≠D->w'.heap[b]?=w.heap[b]?)/\w'.os=w.os/\w'.tape=w.tape/\w'.output=w.output
theorem Qq8 (c:Ql ρ nb mb rt w q R last) (s:Qx R) (o:∃ rk,Up R rk) (B:k<R.length) {D:Nat} (M:Xc w D 0 Xv) (N:Xf w D 0) (O:D<w.heap.size) (F:ρ D=none) : Xl 68 #[Xp (nb R[k].id),.func (.func 69) #[] #[Xp D]] w λe w'=>e=.returned (.tuple #[])/\Qib R w D w.heap.size (Qm R R.length k) w':=by
 obtain ⟨rk,o⟩:=o;have t:=Qae o B;obtain ⟨P,S,E⟩:=c.kids_read;have r:∀ b j,(∃ i:Int,ρ b=some (i,j))->b<w.heap.size/\b≠D:=λb j d=>by obtain ⟨i,e⟩:=d;refine ⟨c.low b (by rw [e];rfl),λe'=>?_⟩;rw [e',F] at e;cases e
 rw [<- QV B];refine (QvC R nb D (Qib R w D w.heap.size) P S c.few ?_ ?_ s.pos R.length k [] w t (Qhy o s t) (λ_ _ c=>by simp at c) ⟨⟨nodup_nil,λ_ c=>by simp at c⟩,Xv,M,N,Xc0 _ _ _ _,X0,λ_ _ _=>rfl,rfl,rfl,rfl⟩:Calls _ _ _ _ _).mono ?_
 ·rintro G w1 ⟨_,v,_,_,_,_,d,_⟩ n l;obtain ⟨T,U⟩:=E n l;obtain ⟨V,W,p⟩:=c.node n l;obtain ⟨h,m⟩:=r _ 0 ⟨_,p.role⟩;refine ⟨(Xb3 (d _ h m)).trans T,λi x f=>?_⟩;obtain ⟨g,e,X,Y⟩:=U i x f;obtain ⟨h,m⟩:=r _ 2 ⟨_,X⟩;exact ⟨g,e,(Xb3 (d g h m)).trans Y⟩
 ·rintro G w1 n l H ⟨⟨u,y⟩,v,a0,a1,a2,a3,d,I,J,K⟩;obtain ⟨V,W,p⟩:=c.node n l;obtain ⟨h,m⟩:=r _ 0 ⟨_,p.role⟩;have ac:=c.few;have ad:=Qls s u y;refine (QrQ n.id a0 a1 ((Xb3 (d _ h m)).trans (Qj p.blk 0 _ rfl)) O h a3 (by omega) a2).mono ?_;rintro e w2 ⟨rfl,a4,a5,a6,a7,ae,L,a8,a9,aa⟩;refine ⟨rfl,⟨?_,λx f=>?_⟩,a4,a5,a6,a7,by omega,λb z A=>(L b z A).trans (d b z A),a8.trans I,a9.trans J,aa.trans K⟩
  ·rw [nodup_append];exact ⟨u,by simp,λa ab b d e=>by rw [mem_singleton.1 d] at e;exact H (e▸ab)⟩
  rcases Xa4.1 f with f|f
  ·exact y x f
  exact ⟨n,l,(Xa2.1 f).symm⟩
 rintro e w' ⟨rfl,C⟩;rw [nil_append] at C;exact ⟨rfl,C⟩
theorem Qnp m (nb:Int->Nat) t w q R last (f:Ql m nb t (some (nb 1)) w q R last) (g:Qw R last) (r:Nat) (u:r<R.length) (k:R[r].id=1) : Xl 51 #[Xp q] w λe w'=>∃ v,e=.returned v/\w'.ownsRow w.heap.size 3 1 v (Qm R R.length r).length (Qs (Qm R R.length r))/\Xb w w':=by
 have J:=Qj f.blk 0 (Xp (nb 1)) rfl;have I:=Q9 f.blk;have n:Hid (∀ w1,Xb w w1->w1.cell? (Xa w.heap.size 0)=some Xv->w1.frozen? (Xa w.heap.size 0)=false->w.heap.size<w1.heap.size->Xl 68 #[Xp (nb 1),.func (.func 69) #[] #[Xp w.heap.size]] w1 λe w'=>e=.returned (.tuple #[])/\Qib R w1 w.heap.size w1.heap.size (Qm R R.length r) w'):=Qa λw1 h y z A=>by rw [<- k];refine Qq8 (f.below h) g.ids g.up u y z A ?_;cases o:m w.heap.size with| none=>rfl| some x=>have:=f.low w.heap.size (by rw [o];rfl);omega
 clear f g k;go_enter Tryz.func51,Tryz.ntmps51;go_wp2_with fail;generalize d:w.alloc (.cells #[Xv] 69)=i;have a:=Xt d;have p:w.heap.size<i.heap.size:=by rw [<- d];simp
 have B:=Xz d 0 Xv rfl;have C:i.frozen? (Xa w.heap.size 0)=false:=by rw [<- d];simp [go_sem]
 clear d;refine (n.out i a B C p).mono ?_;rintro e w2 ⟨rfl,_,v,K,D,j,L,l,E,F,G⟩;obtain ⟨ao,c,rfl⟩:=Qy j;have H:=Qa j;have s:=Qa l;clear j l D;go_wp2;go_ret;refine ⟨_,rfl,QbG H.out a.size,E.trans a.os,F.trans a.tape,G.trans a.output,by omega,λb h=>?_⟩;exact (s.out b (by omega) (by omega)).trans (a.block b h)
theorem QwO h (nb:Int->Nat) d w q R last (b:Ql h nb d (some (nb 1)) w q R last) (a:Qw R last) (r:Nat) (i:r<R.length) (g:R[r].id=1) : Xl 52 #[Xp q] w λe w'=>e=.returned (Xi ((R.length:Int)-((Qm R R.length r).length:Int)))/\Xb w w':=by
 have B:=Qj b.blk 1 (.map (some d)) rfl;have z:∀ ty,(Builtin.len_ #[111] ty #[.map (some d)]).run Tryz.prog w=.ok (Xi R.length) w:=λty=>b.map.len ty;have o:=Qa (Qnp h nb d w q R last b a r i g);have s:R.length<=800:=b.few;have C:(Qm R R.length r).length<=800:=by obtain ⟨rk,j⟩:=a.up;have f:=Qae j i;refine Xb6 (Qls a.ids (Qhy j a.ids f) λx t=>?_) s;obtain ⟨n,u,e⟩:=Qjl.1 t;have k:=(Qc0 a.ids _ _ _ f n u).1;exact ⟨R[n.1],Xa0 k,by rw [<- e,QV k]⟩
 clear b a g;generalize Qm R R.length r=L at *;generalize p:R.length=N at *;generalize A:L.length=M at *;clear p;go_enter Tryz.func52,Tryz.ntmps52;go_wp2_with (first|(go_at_call 51;refine (Qb o).mono ?_;rintro e w1 ⟨v,rfl,l,m⟩;obtain ⟨ao,c,rfl⟩:=Qy l;have y:=Qa m;clear l m));go_ret;refine ⟨?_,y.out⟩;go_num
def ZT (Ns:List (Value × List TN)):List TN:=Ns.flatMap (·.2)
theorem Qrp (M N:List TN):ZW (M++N)=ZW M++ZW N:=by unfold ZW;rw [flatMap_append]
theorem QtK (N:List TN):∀ u ∈ ZW N,u.oneCell'=true:=λu a=>by obtain ⟨n,_,b⟩:=Xa9.1 a;exact n.cells_one u b
theorem Qm1 {Ns:List (Value × List TN)} (a:j<Ns.length):ZT (Ns.take (j+1))=ZT (Ns.take j)++Ns[j].2:=by unfold ZT;rw [take_succ_eq_append_getElem a,flatMap_append];simp
theorem QtU {Ns:List (Value × List TN)} (j:Nat):(ZT (Ns.take j)).length<=(ZT Ns).length:=by
 unfold ZT;conv=>rhs;rw [<- take_append_drop j Ns,flatMap_append,length_append]
 omega
theorem QnW (B:Nat) (w:World) (c:TN) (F:Option Addr) (aq:Nat) (Ns:List (Value × List TN)) (m:Nat) (R:Ns.length=m) (ar:B<=w.heap.size) (I:∀ j,(A:j<Ns.length)->∃ t,F=some (Xa t 0)/\w.cell? (Xa t j)=some Ns[j].1) (K:∀ a,F=some a->a.block<w.heap.size) (E:∀ j,(A:j<Ns.length)->Zz B w Ns[j].1 Ns[j].2) (S:c.Ok B w Xv) (J:(c::ZT Ns).Pairwise λm n=>n.av.ownBlock=none \/ n.av.ownBlock≠m.av.ownBlock) (aI:(ZT Ns).length<=1000000) (aM:m<=1000000) : Xl 84 #[.agg #[Xi c.d,.string c.tag,Xi c.key,.slice c.ao c.an c.ac,.string c.text],.slice F m aq] w λe w'=>∃ q,e=.returned q/\Zz B w' q (c::ZT Ns)/\Xb w w'/\∀ b,q.ownBlock=some b->w.heap.size<=b:=by
 obtain ⟨au,aw,a7,a8,a9⟩:=info_parts QiK;have a5:Hid (∀ (w':World) (v:Value),w'.ownsRow w.heap.size 33 5 v (c::ZT Ns).length (ZW (c::ZT Ns))->Xb w w'->Zz B w' v (c::ZT Ns)/\Xb w w'/\∀ b,v.ownBlock=some b->w.heap.size<=b):=Qa λw' v f C=>by
  refine ⟨⟨QbG f ar,λn x=>?_,J⟩,C,λb e=>(f.lt b e).1⟩;have h:∃ q,n.Ok B w q:=by
   rcases mem_cons.1 x with rfl|x
   ·exact ⟨_,S⟩
   obtain ⟨p,ax,x⟩:=Xa9.1 x;obtain ⟨j,A,rfl⟩:=Xa3 ax;exact ⟨_,(E j A).node n x⟩
  obtain ⟨q,h⟩:=h;refine ⟨h.an,h.tag,h.text,QX h.row C,h.size,?_⟩;cases ay:n.av.ownBlock with| none=>exact .inl rfl| some b =>right;intro e;have aN:=(h.row.lt b ay).2;have aO:=(f.lt b e.symm).1;omega
 have a1:=Qa I;have aa:=Qa K;have a2:=Qa E;clear I K E S J;have T:=Qa R;clear R;go_enter Tryz.func84,Tryz.ntmps84;go_wp2_with fail;generalize y:World.alloc (World.alloc _ _) _=G;have L:Xb w G:=by rw [<- y];exact Xn
 have aJ:G.heap.size=w.heap.size+1+1:=by rw [<- y];simp
 have M:G.ownsRow w.heap.size 33 5 (Xe (w.heap.size+1) 1 1) 1 (ZW [c]):=by
  refine ⟨rfl,.inr ⟨w.heap.size+1,1,#[Xi c.d,.string c.tag,Xi c.key,.slice c.ao c.an c.ac,.string c.text],rfl,by omega,?_,X0,by decide,rfl,rfl⟩⟩;have r:(w.alloc (.cells #[Xi c.d,.string c.tag,Xi c.key,.slice c.ao c.an c.ac,.string c.text] 33)).heap.size=w.heap.size+1:=by simp
  have D:=Xc5 (w.alloc (.cells #[Xi c.d,.string c.tag,Xi c.key,.slice c.ao c.an c.ac,.string c.text] 33)) (.cells #[Xi c.d,.string c.tag,Xi c.key,.slice c.ao c.an c.ac,.string c.text] 33);rw [r] at D;rw [<- y];exact D
 have ab:=Qa M;have ad:=Qa L;clear y M L;go_loopw [5,7,12] (λl _ i wr=>∃ (j:Nat) (v:Value),j<=m/\v=l/\i=Xi j/\Hid (wr.ownsRow w.heap.size 33 5 v (c::ZT (Ns.take j)).length (ZW (c::ZT (Ns.take j))))/\Hid (Xb w wr)) (λ_ _ i _=>m-(intOf i).toNat);·exact ⟨0,_,X3,rfl,rfl,ab,ad⟩
 case round =>
  obtain ⟨j,v,A,rfl,rfl,f,s⟩:=hrel;by_cases aK:j<m
  ·have z:j<Ns.length:=by have:=T.out;omega
   obtain ⟨t,N,U⟩:=a1.out j z;have ae:=aa.out _ N;subst N;have az:Xc wr t j Ns[j].1:=(Xh s.out t j ae).trans U;have o:=(a2.out j z).row;obtain ⟨ao,ac,V⟩:=Qy o;rw [V] at az o;have aL:(j:Int)<(m:Int):=by omega
   have af:(ZT (Ns.take j)).length+Ns[j].2.length<=1000000:=by have:=QtU (Ns:=Ns) (j+1);rw [Qm1 z,length_append] at this;omega
   have a3:Hid (∀ a,ao=some a->∀ k u,(ZW Ns[j].2)[k]?=some u->wr.cell? (a.add k)=some u):=Qa λa H k u W=>by
    have X:=(Xd3.1 W).1;rw [o.1] at X;rcases o.2 with ⟨e,_⟩|⟨g,ag,ah,e,_⟩
    ·rw [H] at e;cases e
    rw [H] at e;have e:=(Value.slice.inj e).1;have e:=Xb5 e;subst e;rw [H] at o;have ai:=QX o s.out;have:=ai.cellAt k X;rw [W] at this;have aA:((Xa g 0):Addr).add k=(Xa g k):=by
     by_cases O:k=0
     ·subst O;simp [Addr.add]
     simp [Addr.add,O]
    rw [aA];exact this
   have a4:Hid (ao=none->Ns[j].2.length=0/\ac=0):=Qa λe=>by
    rcases o.2 with ⟨r,D⟩|⟨g,ag,ah,r,_⟩
    ·exact ⟨D,(Value.slice.inj r).2.2⟩
    rw [e] at r;cases (Value.slice.inj r).1
   have aB:Hid ((ZW Ns[j].2).length=Ns[j].2.length*5):=Qa (Qll _);have aj:=s.out.size;have P:(c::ZT (Ns.take j)).length=(ZT (Ns.take j)).length+1:=rfl;have Y:Hid (ZW (c::ZT (Ns.take j))++ZW Ns[j].2=ZW (c::ZT (Ns.take (j+1)))/\(c::ZT (Ns.take j)).length+Ns[j].2.length=(c::ZT (Ns.take (j+1))).length):=Qa (by rw [Qm1 z,<- Qrp];refine ⟨rfl,?_⟩;rw [<- cons_append,length_append]);have aH:(c::ZT (Ns.take j)).length+Ns[j].2.length<=1000001:=by rw [P];omega
   clear o V U P af;have a6:=Qa (QtK Ns[j].2);generalize Ns[j].2=a0 at *;generalize (c::ZT (Ns.take j)).length=aC at *;generalize a0.length=aD at *;go_wp2_with (first|(at_builtin;refine Zp _ rfl (.tmp 16) (.tmp 17) 24 rfl w.heap.size 33 au _ 5 72 Tryz.underlying24 aw a7 a8 a9 rfl v aC _ rfl (Qb f) ao aD ac (ZW a0) rfl (Qb a4) (Qb aB) (Qb a3) (Qb a6) (by omega) (by omega) (by omega) ?_;intro aE w2 ak al _));refine ⟨⟨j+1,aE,by omega,rfl,by go_num,Qa (by rw [<- Y.out.1,<- Y.out.2];exact ak.out),Qa ?_⟩,by simp [intOf];omega⟩;exact s.out.grown al.out.by aj (λb C=>(f.out.lt b C).1)
  have ap:j=m:=by omega
  subst ap;have aF:Hid (wr.ownsRow w.heap.size 33 5 v (c::ZT Ns).length (ZW (c::ZT Ns))):=by rw [<- T.out,take_length] at f;exact f
  have aG:=Qa (a5.out wr v aF.out s.out);go_wp2;go_ret;exact ⟨_,rfl,aG.out⟩
def Jn (R:List RN) (a:List (Nat × Int)) (N:List TN):Prop:=N.length=a.length/\∀ i,(b:i<a.length)->(c:i<N.length)->Qfg R a[i] N[i]
theorem Jn.nil (R:List RN):Jn R [] []:=⟨rfl,λ_ a=>absurd a (Xb7 _)⟩
theorem Jn.app {c:List (Nat × Int)} {N d:List TN} (a:Jn R W N) (f:Jn R c d):Jn R (W++c) (N++d):=by
 refine ⟨by rw [length_append,length_append,a.1,f.1],λi g h=>?_⟩;by_cases b:i<W.length
 ·rw [getElem_append_left b,getElem_append_left (by rw [a.1];exact b)];exact a.2 i b _
 have j:=a.1;rw [length_append] at g h;rw [getElem_append_right (by omega),getElem_append_right (by omega)];have:=f.2 (i-W.length) (by omega) (by omega);simp only [j];exact this
theorem Jn.one {x:Nat × Int} {n:TN} (b:Qfg R x n):Jn R [x] [n]:=⟨rfl,λi a c=>by
 have:i=0:=by simpa using a
 subst this;exact b⟩
structure QcE (B:Nat) (w:World) (pv:Value) (Ns:List (Value × List TN)):Prop where
 row:w.ownsRow B 24 1 pv Ns.length (Ns.map (·.1))
 tell:∀ p,p ∈ Ns->Zz B w p.1 p.2
 off:∀ p,p ∈ Ns->(p.1.ownBlock=none \/ p.1.ownBlock≠pv.ownBlock)/\∀ n,n ∈ p.2->n.av.ownBlock=none \/ n.av.ownBlock≠pv.ownBlock
 far:(ZT Ns).Pairwise λm n=>n.av.ownBlock=none \/ n.av.ownBlock≠m.av.ownBlock
theorem QcE.nil (B:Nat) (w:World):QcE B w Xv []:=⟨Xc0 _ _ _ _,λ_ a=>by simp at a,λ_ a=>by simp at a,List.Pairwise.nil⟩
theorem QcE.below {B:Nat} {w w':World} {pv:Value} {Ns:List (Value × List TN)} (a:QcE B w pv Ns) (b:Xb w w'):QcE B w' pv Ns := ⟨QX a.row b,λp c=>(a.tell p c).below b,a.off,a.far⟩
theorem Zz.kept {B:Nat} {w w':World} {q:Value} {N:List TN} (a:Zz B w q N) {row:Option Nat} (c:w.grownBy w' row) (d:q.ownBlock=none \/ q.ownBlock≠row) (f:∀ n,n ∈ N->n.av.ownBlock=none \/ n.av.ownBlock≠row):Zz B w' q N := ⟨a.row.kept c d,λn b=>⟨(a.node n b).an,(a.node n b).tag,(a.node n b).text,(a.node n b).row.kept c (f n b),(a.node n b).size,(a.node n b).ne⟩,a.far⟩
theorem Zz.ge {q:Value} {N:List TN} (a:Zz B w q N) (c:B'<=B):Zz B' w q N := ⟨QbG a.row c,λn b=>⟨(a.node n b).an,(a.node n b).tag,(a.node n b).text,QbG (a.node n b).row c,(a.node n b).size,(a.node n b).ne⟩,a.far⟩
theorem QcE.snoc {j q:Value} {Ns:List (Value × List TN)} {N:List TN} (d:QcE B w pv Ns) (z:B<=w.heap.size) (t:Xb w w2) (g:Zz w.heap.size w2 q N) (i:Xb w2 w3) (f:ZV w3 w4 pv j) (u:w4.ownsRow B 24 1 j (Ns.length+1) (Ns.map (·.1)++[q])):QcE B w4 j (Ns++[(q,N)]):=by
 have x:∀ b,pv.ownBlock=some b->b<w.heap.size:=λb e=>(d.row.lt b e).2;have s:∀ {v:Value},(∀ b,v.ownBlock=some b->w.heap.size<=b/\b<w2.heap.size)->(v.ownBlock=none \/ v.ownBlock≠pv.ownBlock)/\v.ownBlock≠some w3.heap.size:=fun {v} h=>by
  cases y:v.ownBlock with
  | none=>exact ⟨.inl rfl,by simp⟩
  | some b =>
   have:=h b y;refine ⟨.inr λe=>?_,λe=>?_⟩
   ·have:=x b e.symm;omega
   have e:=Xb5 e;have:=i.size;omega
 have r:∀ {v:Value},(∀ b,v.ownBlock=some b->b<w.heap.size)->v.ownBlock≠some w3.heap.size:=fun {v} h e=>by have:=h _ e;have:=t.size;have:=i.size;omega
 have k:=s (v:=q) λb e=>g.row.lt b e;have l:∀ n,n ∈ N->(n.av.ownBlock=none \/ n.av.ownBlock≠pv.ownBlock)/\n.av.ownBlock≠some w3.heap.size:=λn c=>s λb e=>(g.node n c).row.lt b e;refine ⟨by rw [length_append,map_append];exact u,λp a=>?_,λp a=>?_,?_⟩
 ·rcases Xa4.1 a with a|a
  ·exact (((d.tell p a).below t).below i).kept f.by (d.off p a).1 (d.off p a).2
  rw [mem_singleton.1 a];exact ((g.ge z).below i).kept f.by k.1 λn c=>(l n c).1
 ·rcases Xa4.1 a with a|a
  ·exact ⟨Qec f (d.off p a).1 (r λb e=>((d.tell p a).row.lt b e).2),λn c=>Qec f ((d.off p a).2 n c) (r λb e=>(((d.tell p a).node n c).row.lt b e).2)⟩
  rw [mem_singleton.1 a];exact ⟨Qec f k.1 k.2,λn c=>Qec f (l n c).1 (l n c).2⟩
 have e:ZT (Ns++[(q,N)])=ZT Ns++N:=by unfold ZT;simp
 rw [e,pairwise_append];refine ⟨d.far,g.far,λm o n c=>?_⟩;obtain ⟨p,a,o⟩:=Xa9.1 o;cases h:n.av.ownBlock with| none=>exact .inl rfl| some b =>right;intro e;have A:=((g.node n c).row.lt b h).1;have C:=(((d.tell p a).node m o).row.lt b e.symm).2;omega
theorem QkY:(Tryz.prog.info? 24).map (λi=>(i.zero,i.size,i.bytes))=some (some Xv,1,24):=by kernel_rfl
def Qeg (R:List RN) (a:List (Nat × Int)) (B:Nat) (w:World) (e:Ending) (w':World):Prop:=∃ q N,e=.returned q/\Zz B w' q N/\Jn R a N/\Xb w w'
theorem Qkb (g k:Nat):((Xa g 0):Addr).add k=(Xa g k):=by
 by_cases a:k=0
 ·subst a;simp [Addr.add]
 simp [Addr.add,a]
theorem QjF (a:w.ownsRow B e size (.slice ao n c) n xs) {x:Addr} (b:ao=some x) {u:Value} (d:xs[k]?=some u):w.cell? (x.add k)=some u:=by
 have f:=(Xd3.1 d).1;rw [a.1] at f;rcases a.2 with ⟨e,_⟩|⟨g,h,i,e,_⟩
 ·rw [b] at e;cases (Value.slice.inj e).1
 rw [b] at e;have e:=Xb5 (Value.slice.inj e).1;subst e;rw [b] at a;have:=a.cellAt k f;rw [d] at this;rw [Qkb];exact this
theorem QsR bg nb bh bi q R last (f a:Nat) (d:Int) w (G:Ql bg nb bh bi w q R last) (a0:a<R.length) (a6:∀ n,n ∈ R->0<n.id) (bJ:0<=d) (bK:d<=1000000) (a7:(Qo R (f+1) a d).length<=1000000) (ih:∀ i,(h:i<(Qn R R[a].id).length)->∀ w1,Xb w w1->Xl 66 #[Xp (nb (Qg R (Qn R R[a].id)[i])),Xi (d+1)] w1 (Qeg R (Qo R f (Qn R R[a].id)[i] (d+1)) w1.heap.size w1)) : Xl 66 #[Xp (nb R[a].id),Xi d] w (Qeg R (Qo R (f+1) a d) w.heap.size w):=by
 obtain ⟨bj,h,aR,aS,aT⟩:=info_parts QkY;obtain ⟨bk,bl,aU,aV,aW⟩:=info_parts Qcr;have a1:R[a] ∈ R:=Xa0 a0;obtain ⟨bU,bV,l⟩:=G.node _ a1;have al:=a6 _ a1;have ab:(Qn R R[a].id).length=(Qf R R[a].id).length:=by rw [<- Qcm R (by omega),length_map]
 have a8:∀ i,(h:i<(Qn R R[a].id).length)->(Qf R R[a].id)[i]?=some (Qg R (Qn R R[a].id)[i]):=λi h=>by rw [<- Qcm R (by omega),getElem?_map,getElem?_eq_getElem h];rfl
 obtain ⟨bm,bW,a5⟩:=G.kids_read;obtain ⟨bn,a4⟩:=a5 _ a1;have ap:=Qj l.blk 1 (Xi R[a].key) rfl;have aq:=Qj l.blk 2 (.string R[a].tag) rfl;have ar:=Qj l.blk 3 (.string R[a].text) rfl;obtain ⟨ao,ac,rfl⟩:=Qy l.arow;have au:=Qj l.blk 4 (.slice ao R[a].ats.length ac) rfl;have av:Qo R (f+1) a d=(a,d)::(Qn R R[a].id).flatMap λk=>Qo R f k (d+1):=by rw [Qo,QV a0]
 have I:=l.lt;have aI:Hid (∀ i,(h:i<(Qn R R[a].id).length)->∀ wr,Xb w wr->∃ g,bm R[a].id=some (Xa g 0)/\wr.cell? (Xa g i)=some (Xp (nb (Qg R (Qn R R[a].id)[i])))):=Qa λi h wr C=>by obtain ⟨g,e,aX,bo⟩:=a4 i _ (a8 i h);exact ⟨g,e,(Xh C g i (G.low g (by rw [aX];rfl))).trans bo⟩
 have aY:=Qa ih;have aZ:Hid (w.ownsRow 0 72 2 (.slice ao R[a].ats.length ac) R[a].ats.length (QS R[a].ats)):=Qa l.arow;have b0:=Qa l.size;have aJ:=Qa l.tag;have aF:=Qa l.text;have bH:=l.few;have bF:=QeV R R[a].id;have bL:=G.few;have ad:=Qa ab;have aw:=Qa av;have aK:=Qa a7;clear a5 a4 l G ih a8 ab av a6 a7;generalize b1:nb R[a].id=c at *;generalize b2:(Qf R R[a].id).length=A at *;have bI:A<=800:=by omega
 generalize a9:R[a].ats=ats at *;have aL:=Qa a9;generalize ae:ats.length=t at *;have b3:=Qa ae;clear b1 b2 ae a9;go_enter Tryz.func66,Tryz.ntmps66;go_wp2;go_loopw [5,7,14] (λb4 _ i wr=>∃ (j:Nat) (pv:Value) (Ns:List (Value × List TN)),j<=A/\pv=b4/\i=Xi j/\Hid (Ns.length=j)/\Hid (QcE w.heap.size wr pv Ns)/\Hid (Jn R (((Qn R R[a].id).take j).flatMap λk=>Qo R f k (d+1)) (ZT Ns))/\Hid (Xb w wr)) (λ_ _ i _=>A-(intOf i).toNat);·exact ⟨0,_,[],X3,rfl,rfl,Qa rfl,Qa (QcE.nil _ _),Qa (Jn.nil _),Qa X4⟩
 case round =>
  obtain ⟨j,pv,Ns,bM,rfl,rfl,v,s,H,m⟩:=hrel;by_cases bN:j<A
  ·have S:j<(Qn R R[a].id).length:=by have:=ad.out;omega
   obtain ⟨g,bp,bX⟩:=aI.out j S wr m.out;have bq:=Qa (aY.out j S wr m.out);have bO:(j:Int)<(A:Int):=by omega
   rw [bp];have J:=m.out.size;have aM:Hid (∀ w2 w3,Xb wr w2->Xb w2 w3->w3.ownsRow w.heap.size 24 1 pv j (Ns.map (·.1))):=Qa λw2 w3 D br=>by have:=QX (QX s.out.row D) br;rwa [v.out] at this
   generalize b5:Qg R (Qn R R[a].id)[j]=bY at *;clear b5;go_wp2_with (first|(go_at_call 66;refine (Qb bq).mono ?_;rintro e w2 ⟨q2,z,rfl,T,af,U⟩;obtain ⟨M,N,rfl⟩:=Qy T.row;have b6:=Qa T;have b7:=Qa af;have V:=Qa U;have bP:=U.size;clear T af U)|(at_builtin;refine Zp _ rfl (.tmp 18) (.tmp 23) 38 rfl w.heap.size 24 bj _ 1 24 Tryz.underlying38 h aR aS aT rfl pv j (Ns.map (·.1)) rfl (Qb aM _ _ (Qb V) Xd) (some (Xa w2.heap.size 0)) 1 1 [.slice M z.length N] rfl (by simp) rfl (Q3 _ _ _) (by simp [Value.oneCell']) (by omega) (by omega) (by simp;omega) ?_;intro b8 w4 K r _));have b9:Xb w2 (w2.alloc (.cells #[.slice M z.length N] 24)):=Xd;refine ⟨⟨j+1,b8,Ns++[(.slice M z.length N,z)],by omega,rfl,by go_num,Qa (by simp [v.out]),Qa (s.out.snoc J V.out b6.out b9 r.out (by rw [v.out];exact K.out)),Qa ?_,Qa ?_⟩,by simp [intOf];omega⟩
   ·have o:ZT (Ns++[(Value.slice M z.length N,z)])=ZT Ns++z:=by unfold ZT;simp
    rw [take_succ_eq_append_getElem S,flatMap_append,o];refine H.out.app ?_;have:=b7.out;simpa using this
   have aN:Below w.heap.size wr w2:=V.out.mono J;exact ((m.out.trans aN).alloc (by omega) _).grown r.out.by (by simp;omega) (λb C=>(s.out.row.lt b C).1)
  have ba:j=A:=by omega
  subst ba;have aO:(Qn R R[a].id).take j=Qn R R[a].id:=by rw [<- ad.out,take_length]
  rw [aO] at H;have ax:=(Xh m.out c 1 I).trans ap;have ay:=(Xh m.out c 2 I).trans aq;have az:=(Xh m.out c 3 I).trans ar;have bs:=(Xh m.out c 4 I).trans au;have J:=m.out.size;have P:Hid (wr.ownsRow 0 72 2 (.slice ao t ac) t (QS ats)):=Qa (QX aZ.out m.out);have aG:Hid (ao=none->t=0/\ac=0):=Qa λe=>by
   rcases P.out.2 with ⟨o,aA⟩|⟨g,bb,bc,o,_⟩
   ·exact ⟨aA,(Value.slice.inj o).2.2⟩
   rw [e] at o;cases (Value.slice.inj o).1
  have aH:Hid (∀ x,ao=some x->∀ k u,(QS ats)[k]?=some u->wr.cell? (x.add k)=some u):=Qa λx a2 k u bt=>QjF P.out a2 bt;have bu:Hid ((QS ats).length=t*2):=Qa P.out.1;have aP:Hid (∀ u ∈ QS ats,u.oneCell'=true):=Qa (QeC ats);clear ap aq ar au bn;go_wp2_with (first|(at_builtin;refine Zp _ rfl (.const Xv) (.tmp 29) 31 rfl wr.heap.size 72 bk _ 2 32 Tryz.underlying31 bl aU aV aW rfl Xv 0 [] rfl (Xc0 _ _ _ _) ao t ac (QS ats) rfl (Qb aG) (Qb bu) (Qb aH) (Qb aP) (by omega) (by omega) (by omega) ?_;intro bQ w4 K r _));have B:=K.out;rw [Nat.zero_add,nil_append] at B;obtain ⟨W,X,rfl⟩:=Qy B;have y:Xb wr w4:=⟨r.out.by.os,r.out.by.tape,r.out.by.output,r.out.by.size,λb C=>r.out.by.block b C (by simp [Value.ownBlock])⟩;have bR:=y.size;have O:=s.out.row;rw [v.out] at O;obtain ⟨aB,aC,rfl⟩:=Qy O;have aa:Xb w w4:=m.out.trans (y.mono J);have bv:Hid (∀ E,Xb w4 E->Xl 84 #[.agg #[Xi d,.string R[a].tag,Xi R[a].key,.slice W t X,.string R[a].text],.slice aB j aC] E λe w'=>Qeg R (Qo R (f+1) a d) w.heap.size w e w'/\Xb E w'):=Qa λE L=>by
   have bS:=L.size;have Y:=(s.out.below y).below L;have bd:=QX B L;have bG:(ZT Ns).length+1<=1000000:=by have aD:=H.out.1;have D:=aK.out;rw [aw.out,length_cons,<- aD] at D;exact D
   refine (QnW w.heap.size E ⟨d,R[a].tag,R[a].key,R[a].text,ats,W,t,X⟩ aB aC Ns j v.out (by omega) (λi h=>?_) (λx a2=>?_) (λi h=>Y.tell _ (Xa0 h)) ⟨b3.out.symm,aJ.out,aF.out,QbG bd (by omega),b0.out,?_⟩ ?_ (by omega) (by omega)).mono ?_
   ·have F:=Y.row;have aQ:(Ns.map (·.1))[i]?=some Ns[i].1:=by rw [getElem?_map,getElem?_eq_getElem h];rfl
    rw [v.out] at F;rcases F.2 with ⟨e,bZ⟩|⟨g,bb,bc,e,_⟩
    ·have:=v.out;omega
    have o:=(Value.slice.inj e).1;refine ⟨g,o,?_⟩;have:=QjF F o aQ;rwa [Qkb] at this
   ·have F:=Y.row;subst a2;exact (F.lt x.block rfl).2
   ·cases (TN.av ⟨d,R[a].tag,R[a].key,R[a].text,ats,W,t,X⟩).ownBlock with| none=>exact .inl rfl| some b=>exact .inr (by simp [Value.ownBlock])
   ·rw [pairwise_cons];refine ⟨λn a3=>?_,s.out.far⟩;obtain ⟨p,al,a3⟩:=Xa9.1 a3;cases bw:n.av.ownBlock with| none=>exact .inl rfl| some b =>right;intro e;have aD:=(((s.out.tell p al).node n a3).row.lt b bw).2;have D:=(B.lt b e.symm).1;omega
   rintro e w' ⟨bx,rfl,bz,ag,_⟩;refine ⟨⟨bx,_,rfl,bz,?_,(aa.trans (L.mono (by omega))).trans (ag.mono (by omega))⟩,ag⟩;rw [aw.out];exact (Jn.one ⟨a0,rfl,rfl,rfl,rfl,aL.out.symm⟩).app H.out
  have o:=(Xh y c 1 (by show c<_;omega)).trans ax;have aA:=(Xh y c 2 (by show c<_;omega)).trans ay;have c0:=(Xh y c 3 (by show c<_;omega)).trans az;have bT:c<w4.heap.size:=by omega
  clear O aa y B K r s ax ay az bs;generalize R[a].key=bA at *;generalize R[a].tag=bB at *;generalize R[a].text=bC at *
  go_region_held3 (λw'=>w'.cell? (Xa c 1)=some (Xi bA)/\w'.cell? (Xa c 2)=some (.string bB)/\w'.cell? (Xa c 3)=some (.string bC))
    (first
      | go_keep
      | (go_split_ands
         refine ⟨?_,?_,?_⟩
         all_goals (rw [ah.cell (by simp;omega)];assumption)))
    (first|(go_at_call 84;refine (Qb bv _ (X4.drew)).mono ?_;rintro e bD ⟨⟨aE,bE,rfl,ai,aj,ak⟩,ah⟩))
  have bf:Hid (Qeg R (Qo R (f+1) a d) w.heap.size w (.returned aE) bD):=Qa ⟨aE,bE,rfl,ai,aj,ak⟩;clear ai aj ak ah;go_wp2;go_ret;exact bf.out
theorem QqP (j:Qz) (nb:Int->Nat) (k:Nat) (l:Option Nat) (q:Nat) R (last:Int) (m:Qx R) (c:∃ rk,Up R rk):∀ (f a:Nat) (d:Int) (w:World),Ql j nb k l w q R last->ZF R f a->0<=d->d+f<=1000000 -> Xl 66 #[Xp (nb (Qg R a)),Xi d] w (Qeg R (Qo R f a d) w.heap.size w):=by
 obtain ⟨rk,c⟩:=c;intro f;induction f with
 | zero=>intro a d w _ b;exact b.elim
 | succ f ih =>intro a d w b h o u;have s:=Qgn (d:=d) c m h;have t:=b.few;obtain ⟨g,n⟩:=h;rw [QV g];rw [QV g] at n;exact QsR j nb k l q R last f a d w b g m.pos o (by omega) (by omega) λi p w1 r=>ih _ (d+1) w1 (b.below r) (n _ (Xa0 p)) (by omega) (by omega)
theorem Qum d (nb:Int->Nat) f w q R last (b:Ql d nb f (some (nb 1)) w q R last) (a:Qw R last) (r:Nat) (g:r<R.length) (c:R[r].id=1) : Xl 46 #[Xp q] w (Qeg R (Qo R R.length r 0) w.heap.size w):=by
 have m:=Qj b.blk 0 (Xp (nb 1)) rfl;have h:Hid (Xl 66 #[Xp (nb 1),Xi 0] w (Qeg R (Qo R R.length r 0) w.heap.size w)):=by obtain ⟨rk,i⟩:=a.up;have l:=b.few;have:=QqP d nb f _ q R last a.ids a.up R.length r 0 w b (Qae i g) (by omega) (by omega);rw [QV g,c] at this;exact Qa this
 clear b a c;go_enter Tryz.func46,Tryz.ntmps46;go_wp2_with (first|(go_at_call 66;refine (Qb h).mono ?_;rintro e w2 ⟨q2,j,rfl,k⟩));go_ret;exact ⟨q2,j,rfl,k⟩
def Jx (L:Nat->Qd) (i:Nat):RN:={ id:=(i:Int)+1,par:=Qam L i,tag:=(L i).t,key:=(L i).k,text:=(L i).x,ats:=Zc (L i),ao:=none,an:=0,ac:=0 }
def Zd (L:Nat->Qd) (k:Nat):List RN:=(List.range k).map (Jx L)
theorem Qbg (L:Nat->Qd) (k:Nat):(Zd L k).length=k:=by unfold Zd;simp
theorem QrD (L:Nat->Qd) (k:Nat):Zd L (k+1)=Zd L k++[Jx L k]:=by unfold Zd;rw [range_succ,map_append];rfl
theorem Qbx (b:i<(Zd L k).length):(Zd L k)[i]=Jx L i:=by
 have a:(Zd L k)[i]?=some (Jx L i):=by unfold Zd;rw [getElem?_map,getElem?_range (by rwa [Qbg] at b)];rfl
 rw [getElem?_eq_getElem b] at a;exact Xb5 a
theorem QfJ (L:Nat->Qd) (i:Nat):∀ j,-1<=Q1 L i j/\Q1 L i j<(j:Int):=by
 intro j;induction j with
 | zero=>exact ⟨Int.le_refl _,by show (-1:Int)<0;omega⟩
 | succ j ih =>
  rw [Q1];split
  ·exact ⟨by omega,by omega⟩
  exact ⟨ih.1,by omega⟩
theorem Qg3 (L:Nat->Qd) (k:Nat):Qx (Zd L k) where
 pos:=λn a=>by
  obtain ⟨i,b,rfl⟩:=Xa3 a
  rw [Qbx]
  show (0:Int)<(i:Int)+1
  omega
 inj:=λi j b c e=>by
  rw [Qbx,Qbx] at e
  have e:(i:Int)+1=(j:Int)+1:=e
  omega
theorem Qi1 (L:Nat->Qd) (k:Nat):∀ n,n ∈ Zd L k->n.id<=(k:Int)/\0<=n.par/\n.par<=(k:Int):=λn a=>by
 obtain ⟨i,b,rfl⟩:=Xa3 a;rw [Qbx];rw [Qbg] at b;have c:=QfJ L i i;refine ⟨by show (i:Int)+1<=k;omega,?_,?_⟩
 ·show 0<=Qam L i;unfold Qam;split<;>omega
 show Qam L i<=k;unfold Qam;split<;>omega
theorem Qud (R:List RN) (x n:RN):∀ k,k<=R.length->Zh (R++[x]) n R.length 0 k=R.take k:=by
 intro k;induction k with
 | zero=>intro _;rfl
 | succ k ih =>
  intro b;have a:k<R.length:=b;have c:((R++[x]).drop k).take 1=[R[k]]:=by rw [drop_append_of_le_length (by omega),drop_eq_getElem_cons a];rfl
  rw [Zh,ih (by omega),if_neg (by simp),if_neg (by omega),c,append_nil,Qdx a]
theorem Qvz (R:List RN) (x n:RN):QM (R++[x]) n R.length 0=R++[n]:=by
 unfold QM;have e:(R++[x]).length=R.length+1:=by simp
 rw [e,Zh,Qud R x n _ X0,if_neg (by simp),if_pos rfl,if_pos rfl,take_length];simp
def Qb2 (nb:Int->Nat) (L:Nat->Qd) (e:Int):Nat->Value
 | 0=>.pointer none
 | j+1=>if (L j).d=e then Xp (nb ((j:Int)+1)) else Qb2 nb L e j
theorem QoR {a:Int->Nat} {e:Int}:∀ {k:Nat},(∀ i:Int,i<=(k:Int)->a i=nb i)->Qb2 a L e k=Qb2 nb L e k:=by
 intro k;induction k with
 | zero=>intro _;rfl
 | succ k ih =>intro b;rw [Qb2,Qb2,b _ (by omega),ih λi c=>b i (by omega)]
theorem QuS:∀ {k:Nat},0<=Q1 L i k->Qb2 nb L ((L i).d-1) k=Xp (nb (Q1 L i k+1)):=by
 intro k;induction k with
 | zero=>intro a;exact absurd a (by show ¬ (0:Int)<=-1;omega)
 | succ k ih =>
  rw [Q1,Qb2];by_cases e:(L k).d=(L i).d-1
  ·rw [if_pos e,if_pos e];intro _;rfl
  rw [if_neg e,if_neg e];exact ih
theorem Qi.setCell (w:World) (a:Addr) (v:Value):Qi (λb=>b=a.block) w (w.setCell a v) := ⟨rfl,rfl,rfl,by rw [QJ];exact X0,λb _ c=>X5 c⟩
theorem Ql.rooted (a:Ql ρ nb mb rt w q R last) (f:Qx R) (b:Nat):Ql ρ nb mb (some b) (w.setCell (Xa q 0) (Xp b)) q R last where
 blk:=QcJ a.blk _
 role:=a.role
 mrole:=a.mrole
 map:=a.map.heap (X5 λe=>by
  have e:mb=q:=e
  have c:=a.mrole
  rw [e,a.role] at c
  have:=(Xb8 (Xb5 c)).2
  omega)
 node:=λn d=>by
  obtain ⟨g,h,i⟩:=a.node n d
  refine ⟨g,h,i.kept (λb j e=>X5 λe'=>?_) (λ_ _=>rfl) rfl⟩
  have e':b=q:=e'
  rw [e',a.role] at e
  have:=(Xb8 (Xb5 e)).1
  have:=f.pos n d
  omega
 low:=λb e=>by rw [QJ];exact a.low b e
 few:=a.few
def Qho (L:Nat->Qd) (w:World) (d q a k:Nat) (wr:World):Prop :=
 ∃ c nb,Ql c nb d (if k=0 then none else some (nb 1)) wr q (Zd L k) k/\(∀ b,(c b).isSome=true->w.heap.size<=b)/\c a=none/\a<wr.heap.size/\(∀ e:Nat,e<12->wr.cell? (Xa a e)=some (Qb2 nb L e k))/\(∀ e,wr.frozen? (Xa a e)=false)/\w.heap.size<=a/\Xb w wr
structure QeY (L:Nat->Qd) (n:Nat):Prop where
 zero:(L 0).d=0
 deep:∀ i,i<n->0<i->1<=(L i).d/\(L i).d<=11
 par:∀ i,i<n->0<i->0<=Q1 L i i
 an:∀ i,i<n->(L i).an<=5
 rise:∀ i,i<n->ZM (Zc (L i))
 tag:∀ i,i<n->(L i).t.size<=1000000
 text:∀ i,i<n->(L i).x.size<=1000000
 att:∀ i,i<n->∀ x,x ∈ Zc (L i)->x.1.size<=1000000/\x.2.size<=1000000
theorem QjB (a:Xb w wr) (c:Zj ρ ρ' wr w2) (f:∀ b,(ρ b).isSome=true->w.heap.size<=b):Xb w w2 := ⟨c.1.os.trans a.os,c.1.tape.trans a.tape,c.1.output.trans a.output,Xb6 a.size c.1.size,λb d=>(c.1.block b (Xb4 d a.size) λe=>by have:=f b e;omega).trans (a.block b d)⟩
theorem Qv9 (w:World) (a b c:Obj):(((w.alloc a).alloc b).alloc c).heap[w.heap.size]?=some a/\(((w.alloc a).alloc b).alloc c).heap[w.heap.size+1]?=some b/\(((w.alloc a).alloc b).alloc c).heap[w.heap.size+1+1]?=some c:=by
 have h:(w.alloc a).heap.size=w.heap.size+1:=by simp
 have i:((w.alloc a).alloc b).heap.size=w.heap.size+1+1:=by simp
 have j:=Xc5 w a;have d:=Xc5 (w.alloc a) b;have f:=Xc5 ((w.alloc a).alloc b) c;rw [h] at d;rw [i] at f;have g:=(Below.refl ((w.alloc a).alloc b).heap.size ((w.alloc a).alloc b)).alloc X0 c;have k:=(Below.refl (w.alloc a).heap.size (w.alloc a)).alloc X0 b;exact ⟨(g.block _ (by omega)).trans ((k.block _ (by omega)).trans j),(g.block _ (by omega)).trans d,f⟩
def Qep (L:Nat->Qd) (w:World) (f q a k:Nat) (nb:Int->Nat) (x:RN) (w4:World):Prop :=
 ∃ c d,Ql c nb f d w4 q (Zd L k++[x]) ((k:Int)+1)/\(k≠0->d=some (nb 1))/\(∀ b,(c b).isSome=true->w.heap.size<=b)/\c a=none/\a<w4.heap.size/\(∀ e:Nat,e<12->w4.cell? (Xa a e)=some (Qb2 nb L e (k+1)))/\(∀ e,w4.frozen? (Xa a e)=false)/\w.heap.size<=a/\Xb w w4
theorem Qep.of {f:Int->Nat} {x:RN} {e:Nat} (F:Ql ρ' f mb (if k=0 then none else some (nb 1)) w3 q (Zd L k++[x]) ((k:Int)+1)) (p:∀ b,(ρ b).isSome=true->w.heap.size<=b) (o:ρ AB=none) (z:AB<wr.heap.size) (y:∀ e:Nat,e<12->wr.cell? (Xa AB e)=some (Qb2 nb L e k)) (A:∀ e,wr.frozen? (Xa AB e)=false) (C:w.heap.size<=AB) (m:Xb w wr) (j:Xb wr w2) (g:Zj ρ ρ' w2 w3) (r:∀ i,i≠(k:Int)+1->f i=nb i) (u:(L k).d=(e:Int)) (J:e<12):Qep L w mb q AB k f x (w3.setCell (Xa AB e) (Xp (f ((k:Int)+1)))):=by
 have K:=j.size;have M:=m.size;have N:=g.1.size;have s:w3.heap[AB]?=wr.heap[AB]?:=(g.1.block AB (by omega) (by rw [o];simp)).trans (j.block AB z);have B:∀ b,(ρ' b).isSome=true->w.heap.size<=b:=λb h=>by
  rcases g.2.2 b h with a|a
  ·exact p b a
  omega
 have n:ρ' AB=none:=by
  cases G:ρ' AB with
  | none=>rfl
  | some P =>
   rcases g.2.2 AB (by rw [G];rfl) with a|a
   ·rw [o] at a;cases a
   omega
 have c:Xb w w3:=QjB (m.trans (j.mono m.size)) g p;have H:=Qi.setCell w3 (Xa AB e) (Xp (f ((k:Int)+1)));refine ⟨ρ',_,F.touch H (λb h l=>?_),λI=>?_,B,n,by rw [QJ];omega,λe' D=>?_,λe'=>?_,C,?_⟩
 ·have l:b=AB:=l;rw [l,n] at h;cases h
 ·rw [if_neg I,r 1 (by omega)]
 ·have v:Xc w3 AB e' (Qb2 nb L e' k):=(Xb3 s).trans (y e' D);rw [Qb2];by_cases t:e'=e
  ·subst t;rw [if_pos u];exact Xc9 _ _ _ v
  rw [if_neg (by rw [u];omega),World.cell?_setCell_other _ _ _ _ (λa=>t (by cases a;rfl)),v,QoR λi O=>r i (by omega)]
 ·rw [World.frozen?_setCell,Qb1 s];exact A e'
 exact ⟨c.os,c.tape,c.output,by rw [QJ];exact c.size,λb E=>(X5 λe=>by have e:b=AB:=e;omega).trans (c.block b E)⟩
theorem QpJ (k:q≠AB) (d:Qep L w mb q AB 0 nb { Jx L 0 with par:=0 } w4):Qho L w mb q AB 1 (w4.setCell (Xa q 0) (Xp (nb 1))):=by
 obtain ⟨n,s,c,_,f,h,i,g,j,l,a⟩:=d;have o:Zd L 0++[{ Jx L 0 with par:=0 }]=Zd L 1:=rfl;rw [o] at c;have r:=f q (by rw [c.role];rfl);refine ⟨n,nb,?_,f,h,by rw [QJ];exact i,λe p=>?_,λe=>?_,l,?_⟩
 ·rw [if_neg (by omega)];exact c.rooted (Qg3 L 1) (nb 1)
 ·rw [World.cell?_setCell_other _ _ _ _ (λd=>k (by cases d;rfl))];exact g e p
 ·rw [World.frozen?_setCell];exact j e
 exact ⟨a.os,a.tape,a.output,by rw [QJ];exact a.size,λb m=>(X5 λe=>by have e:b=q:=e;omega).trans (a.block b m)⟩
theorem Qu5 (l:k≠0) (I:0<=Q1 L k k) (a:Qep L w mb q AB k nb { Jx L k with par:=0 } w4) : Xl 44 #[Xp (nb (Q1 L k k+1)),Xp (nb ((k:Int)+1)),.pointer none] w4 λe n=>e=.returned (.tuple #[])/\Qho L w mb q AB (k+1) n:=by
 obtain ⟨z,J,A,g,i,d,f,s,t,v,o⟩:=a;have g:=g l;subst g;have H:=(QfJ L k k).2;have K:(Zd L k++[{ Jx L k with par:=0 }]).length=k+1:=by rw [length_append,Qbg];rfl
 have x:k<(Zd L k++[{ Jx L k with par:=0 }]).length:=by omega
 have y:(Q1 L k k).toNat<(Zd L k++[{ Jx L k with par:=0 }]).length:=by omega
 have h:(Zd L k++[{ Jx L k with par:=0 }])[k]={ Jx L k with par:=0 }:=by rw [getElem_append_right (by rw [Qbg];exact X0)];simp [Qbg]
 have p:(Zd L k++[{ Jx L k with par:=0 }])[(Q1 L k k).toNat].id=Q1 L k k+1:=by rw [getElem_append_left (by rw [Qbg];omega),Qbx];show (((Q1 L k k).toNat:Nat):Int)+1=_;omega
 have u:Qx (Zd L k++[{ Jx L k with par:=0 }]):=QjJ (Qg3 L k) (by show (0:Int)<(k:Int)+1;omega) λm B=>by have:=(Qi1 L k m B).1;show m.id<(k:Int)+1;omega
 have r:=Qnq z nb mb _ w4 q _ _ A u k (Q1 L k k).toNat x y (by rw [p,h];show Q1 L k k+1≠(k:Int)+1;omega) (by rw [h]);rw [p,h] at r;have C:QM (Zd L k++[{ Jx L k with par:=0 }]) { Jx L k with par:=Q1 L k k+1 } k 0=Zd L (k+1):=by
  have:=Qvz (Zd L k) { Jx L k with par:=0 } { Jx L k with par:=Q1 L k k+1 };rw [Qbg] at this;rw [this,QrD];have:Qam L k=Q1 L k k+1:=by unfold Qam;rw [if_neg l]
  unfold Jx;rw [this]
 refine r.mono ?_;rintro e n ⟨rfl,ρ',c,D⟩;refine ⟨rfl,ρ',nb,?_,λb E=>?_,?_,Xb4 f c.1.size,λe F=>?_,λe=>?_,v,QjB o c i⟩
 ·rw [if_neg (by omega)];have j:=D;rw [show ({ ({ Jx L k with par:=0 }:RN) with par:=Q1 L k k+1 }:RN)={ Jx L k with par:=Q1 L k k+1 } from rfl,C] at j;exact j
 ·rcases c.2.2 b E with a|a
  ·exact i b a
  have:=o.size;omega
 ·cases G:ρ' AB with
  | none=>rfl
  | some M =>
   rcases c.2.2 AB (by rw [G];rfl) with a|a
   ·rw [d] at a;cases a
   omega
 ·rw [World.cell?_of_block (c.1.block AB f (by rw [d];simp))];exact s e F
 rw [Qb1 (c.1.block AB f (by rw [d];simp))];exact t e
theorem QsA (b y n c:Nat) L w (aP:0<n) (a8:n<=400) (ad:Qac w b y n L) (a9:QeY L n) (ay:Hid (Xl 42 #[.slice (some (Xa b y)) n c] w λe w'=>e=.returned (.tuple #[Xi 0,Xi 0])/\Xb w w')) : Xl 22 #[.slice (some (Xa b y)) n c] w λe w'=>∃ m nb X q,e=.returned (.tuple #[Xp q,Xi 0,Xi 0])/\w.heap.size<=q/\(∀ b,(m b).isSome=true->w.heap.size<=b)/\Ql m nb X (some (nb 1)) w' q (Zd L n) n/\Xb w w':=by
 have aQ:∀ w1:World,(Instr.makeMap 111 none).run Tryz.prog w1=.ok (.map (some w1.heap.size)) (w1.alloc (.map #[] 0)):=λw1=>run_makeMap _ w1;have aa:=Qa ad;have o:=Qa a9;clear ad a9;go_enter Tryz.func22,Tryz.ntmps22;go_wp2_with (first|(go_at_call 42;refine (Qb ay).mono ?_;rintro e w1 ⟨rfl,H⟩));generalize I:World.alloc (World.alloc (World.alloc w1 _) _) _=M;have U:=H.size;have a6:Xb w1 (w1.alloc (.map #[] 0)):=Xd;have P:Xb w1 M:=by rw [<- I];exact (a6.alloc (by simp) _).alloc (by simp;omega) _
 have ag:M.heap.size=w1.heap.size+3:=by rw [<- I];simp
 have ah:Hid (Qho L w w1.heap.size (w1.heap.size+1) (w1.heap.size+1+1) 0 M):=by
  obtain ⟨a1,a2,R⟩:=Qv9 w1 (.map #[] 0) (.cells #[.pointer none,.map (some w1.heap.size),Xi 0] 114) (.cells #[.pointer none,.pointer none,.pointer none,.pointer none,.pointer none,.pointer none,.pointer none,.pointer none,.pointer none,.pointer none,.pointer none,.pointer none] 115);rw [I] at a1 a2 R;refine Qa ⟨λb=>if b=w1.heap.size+1 then some (0,0) else if b=w1.heap.size then some (0,1) else none,λ_=>0,⟨a2,by simp,by simp,?_,λn a8=>by simp [Zd] at a8,λb a=>?_,by simp [Zd]⟩,λb a=>?_,by simp;omega,by omega,λe N=>?_,λe=>Qax R e,by omega,H.trans (P.mono U)⟩
  ·have az:=JJ.made w1;have h:(w1.alloc (.map #[] 0)).heap[w1.heap.size]?=some (.map #[] 0):=Xc5 w1 _;have:=az.heap (w':=M) (a1.trans h.symm);have Y:Z8 (λ_=>0) (Zd L 0)=λ_=>none:=by funext i;rfl
   rw [Y];exact this
  ·try simp only [] at a
   split at a
   ·omega
   split at a
   ·omega
   simp at a
  ·try simp only [] at a
   split at a
   ·omega
   split at a
   ·omega
   simp at a
  refine (Qj R e (.pointer none) ?_).trans rfl;have:e=0 \/ e=1 \/ e=2 \/ e=3 \/ e=4 \/ e=5 \/ e=6 \/ e=7 \/ e=8 \/ e=9 \/ e=10 \/ e=11:=by omega
  rcases this with rfl|rfl|rfl|rfl|rfl|rfl|rfl|rfl|rfl|rfl|rfl|rfl<;>rfl
 have aR:=Qa (H.trans (P.mono U));generalize w1.heap.size=f at *;clear I P a6 H U ag;go_loopw [10,11,26] (λ_ _ i wr=>∃ k:Nat,k<=n/\i=Xi k/\Hid (Qho L w f (f+1) (f+1+1) k wr)) (λ_ _ i _=>n-(intOf i).toNat);·exact ⟨0,X3,rfl,ah⟩
 case round =>
  obtain ⟨k,aX,rfl,F⟩:=hrel;by_cases p:k<n
  ·obtain ⟨m,nb,v,B,a3,a4,E,S,V,a⟩:=F.out;have A:=aa.out.node k p;have C:=aa.out.lt;have ab:=(Xh a b (y+k*5) C).trans A.c0;have aA:=(Xh a b (y+k*5+1) C).trans A.c1;have aB:=(Xh a b (y+k*5+2) C).trans A.c2;have aC:=(Xh a b (y+k*5+3) C).trans A.c3;have aD:=(Xh a b (y+k*5+4) C).trans A.c4;have aS:=a.size;obtain ⟨e,N,a5⟩:∃ e:Nat,(L k).d=(e:Int)/\e<12:=by
    by_cases l:k=0
    ·subst l;exact ⟨0,o.out.zero,by decide⟩
    have:=o.out.deep k p (by omega);exact ⟨(L k).d.toNat,by omega,by omega⟩
   have z:m wr.heap.size=none:=by cases aE:m wr.heap.size with| none=>rfl| some aZ=>have:=v.low wr.heap.size (by rw [aE];rfl);omega
   have G:Hid (∀ w2,Xb wr w2->wr.heap.size<w2.heap.size->Xl 43 #[Xp (f+1),.agg #[Xi e,.string (L k).t,Xi (L k).k,.slice (L k).ao (L k).an (L k).ac,.string (L k).x]] w2 λr w3=>∃ s:Int->Nat,r=.returned (Xp (s ((k:Int)+1)))/\w3.cell? (Xa wr.heap.size 0)=w2.cell? (Xa wr.heap.size 0)/\w2.heap.size<=w3.heap.size/\(∃ u,w3.cell? (Xa (f+1+1) e)=some u)/\w3.frozen? (Xa (f+1+1) e)=false/\(∃ u,w3.cell? (Xa (f+1) 0)=some u)/\w3.frozen? (Xa (f+1) 0)=false/\(∀ h,e=h+1->k≠0->w3.cell? (Xa (f+1+1) h)=some (Xp (s (Q1 L k k+1))))/\Hid (Qep L w f (f+1) (f+1+1) k s { Jx L k with par:=0 } (w3.setCell (Xa (f+1+1) e) (Xp (s ((k:Int)+1)))))):=Qa λw2 J ai=>by
    have aj:Zn w2 (L k).ao (L k).an (QP (Zc (L k))) (Q6 (Zc (L k))):=λj D=>by obtain ⟨g,aF,h,Y,aG,aH,aI,aJ⟩:=((A.ok.at'.below a).below J) j D;exact ⟨g,aF,h,Y,by rw [Qi4 D];exact aG,by rw [QhB D];exact aH,by rw [Qi4 D];exact aI,by rw [QhB D];exact aJ⟩
    refine (QiQ m nb f _ w2 (f+1) (Zd L k) k (v.below J) e (L k).k (L k).t (L k).x (L k).ao (L k).an (L k).ac (Zc (L k)) (Qba _).symm (o.out.an k p) (o.out.rise k p) aj (by omega) (by omega) (Qg3 L k) (Qi1 L k) (by rw [Qbg];omega) (o.out.tag k p) (o.out.text k p) (o.out.att k p)).mono ?_;rintro r w3 ⟨s,ρ',rfl,a7,aT,O,a0⟩;have W:w3.heap[f+1+1]?=wr.heap[f+1+1]?:=(O.1.block _ (by omega) (by rw [a3];simp)).trans (J.block _ a4);refine ⟨s,rfl,Xb3 (O.1.block wr.heap.size ai (by rw [z];simp)),O.1.size,⟨_,(Xb3 W).trans (E e a5)⟩,(Qb1 W e).trans (S e),⟨_,Qj a0.blk 0 _ rfl⟩,Qax a0.blk 0,λh aU aV=>?_,Qa (Qep.of a0 B a3 a4 E S V a J O a7 N a5)⟩;have aK:=o.out.par k p (by omega);have aW:=(QfJ L k k).2;rw [World.cell?_of_block W,E h (by omega)];have ak:(h:Int)=(L k).d-1:=by rw [N];omega
    rw [ak,QuS aK,a7 _ (by omega)]
   have af:Hid (k≠0->0<=Q1 L k k):=Qa λl=>o.out.par k p (by omega);have ae:Hid (k≠0->1<=e):=Qa λl=>by have:=o.out.deep k p (by omega);omega
   have al:Hid (k=0->e=0):=Qa λl=>by subst l;have:=o.out.zero;omega
   rw [N] at ab;clear v E S A F z;by_cases l:k=0
   ·have ap:=al.out l;subst ap;subst l;simp only [Nat.zero_mul,Nat.add_zero] at ab aA aB aC aD;go_wp2_with (first|(go_at_call 43;refine (Qb G _ Xd (by simp)).mono ?_;rintro r w3 ⟨s,rfl,z,aq,⟨u,aL⟩,ar,⟨aM,au⟩,av,K,T⟩;simp [go_sem] at z;clear G K));exact ⟨⟨1,by omega,rfl,Qa (QpJ (by omega) (Qb T))⟩,by simp [intOf];omega⟩
   obtain ⟨h,rfl⟩:∃ h,e=h+1:=⟨e-1,by have:=ae.out l;omega⟩;go_wp2_with (first|(go_at_call 43;refine (Qb G _ Xd (by simp)).mono ?_;rintro r w3 ⟨s,rfl,z,aq,⟨u,aL⟩,ar,⟨aM,au⟩,av,K,T⟩;have K:=K h rfl l;simp [go_sem] at z;have aN:=Qa (Qu5 l (Qb af l) (Qb T));clear G)|(go_at_call 44;refine (Qb aN).mono ?_;rintro r aY ⟨rfl,aw⟩));exact ⟨⟨k+1,by omega,by go_num,Qa aw⟩,by simp [intOf];omega⟩
  have ax:k=n:=by omega
  subst ax;obtain ⟨m,nb,v,B,_,_,_,_,V,a⟩:=F.out;rw [if_neg (by omega)] at v;have aO:Hid (∃ m nb X q,Ending.returned (.tuple #[Xp (f+1),Xi 0,Xi 0])=.returned (.tuple #[Xp q,Xi 0,Xi 0])/\w.heap.size<=q/\(∀ b,(m b).isSome=true->w.heap.size<=b)/\Ql m nb X (some (nb 1)) wr q (Zd L k) k/\Xb w wr):=Qa ⟨m,nb,f,f+1,rfl,B _ (by rw [v.role];rfl),B,v,a⟩;clear v B V a F;go_wp2;refine bodyPost_ret (results_tmp3 rfl _ _ _) rfl ?_;exact aO.out
theorem QvI (a q:Nat) (w:World) (b:Value->World->Prop) (f:Xc w a 0 (Xp q)) (c:Hid (Xl 46 #[Xp q] w λe w'=>∃ v,e=.returned v/\b v w')) : Xl 25 #[Xp a] w λe w'=>∃ v,e=.returned v/\b v w':=by go_enter Tryz.func25,Tryz.ntmps25;go_wp2_with (first|(go_at_call 46;refine (Qb c).mono ?_;rintro e w2 ⟨v,rfl,d⟩));go_ret;exact ⟨v,rfl,d⟩
theorem Qrh (a q:Nat) (w:World) (b:Value->World->Prop) (f:Xc w a 0 (Xp q)) (c:Hid (Xl 51 #[Xp q] w λe w'=>∃ v,e=.returned v/\b v w')) : Xl 29 #[Xp a] w λe w'=>∃ v,e=.returned v/\b v w':=by go_enter Tryz.func29,Tryz.ntmps29;go_wp2_with (first|(go_at_call 51;refine (Qb c).mono ?_;rintro e w2 ⟨v,rfl,d⟩));go_ret;exact ⟨v,rfl,d⟩
theorem QpU (a q:Nat) (w:World) (b:Value->World->Prop) (f:Xc w a 0 (Xp q)) (c:Hid (Xl 52 #[Xp q] w λe w'=>∃ v,e=.returned v/\b v w')) : Xl 32 #[Xp a] w λe w'=>∃ v,e=.returned v/\b v w':=by go_enter Tryz.func32,Tryz.ntmps32;go_wp2_with (first|(go_at_call 52;refine (Qb c).mono ?_;rintro e w2 ⟨v,rfl,d⟩));go_ret;exact ⟨v,rfl,d⟩
theorem Qki (b q:Nat) (w:World) (ao:Option Addr) (n c:Nat) (d:Int->Int->World->Prop) (h:Xc w b 0 (Xp q)) (f:Hid (Xl 53 #[Xp q,.slice ao n c] w λe w'=>∃ x a,e=.returned (.tuple #[Xi x,Xi a])/\d x a w')) : Xl 34 #[Xp b,.slice ao n c] w λe w'=>∃ x a,e=.returned (.tuple #[Xi x,Xi a])/\d x a w':=by go_enter Tryz.func34,Tryz.ntmps34;go_wp2_with (first|(go_at_call 53;refine (Qb f).mono ?_;rintro e w2 ⟨x,a,rfl,g⟩));refine bodyPost_ret (results_tmp2 rfl _ _ _) rfl ?_;exact ⟨x,a,rfl,g⟩
theorem QpS (ao:Option Addr) (n c:Nat) (w:World) (a b:Int) (g:(a !=0)=true) (f:Hid (Xl 42 #[.slice ao n c] w λe w'=>e=.returned (.tuple #[Xi a,Xi b])/\Xb w w')) : Xl 22 #[.slice ao n c] w λe w'=>e=.returned (.tuple #[.pointer none,Xi a,Xi b])/\Xb w w':=by go_enter Tryz.func22,Tryz.ntmps22;go_wp2_with (first|(go_at_call 42;refine (Qb f).mono ?_;rintro e w1 ⟨rfl,d⟩));refine bodyPost_ret (results_tmp3 rfl _ _ _) rfl ?_;exact ⟨rfl,d⟩
theorem QwD (ao:Option Addr) (n c:Nat) (w:World) (a b:Int) (g:(a !=0)=true) (f:Hid (Xl 22 #[.slice ao n c] w λe w'=>e=.returned (.tuple #[.pointer none,Xi a,Xi b])/\Xb w w')) : Xl 10 #[.slice ao n c] w λe w'=>e=.returned (.tuple #[.pointer none,Xi a,Xi b])/\Xb w w':=by go_enter Tryz.func10,Tryz.ntmps10;go_wp2_with (first|(go_at_call 22;refine (Qb f).mono ?_;rintro e w1 ⟨rfl,d⟩));refine bodyPost_ret (results_tmp3 rfl _ _ _) rfl ?_;exact ⟨rfl,d⟩
theorem QsW (ao:Option Addr) (n c:Nat) (w:World) (a:Nat->World->Prop) (d:Hid (Xl 22 #[.slice ao n c] w λe w'=>∃ q,e=.returned (.tuple #[Xp q,Xi 0,Xi 0])/\a q w')) : Xl 10 #[.slice ao n c] w λe w'=>∃ q w1,a q w1/\w'=w1.alloc (.cells #[Xp q] 84)/\e=.returned (.tuple #[Xp w1.heap.size,Xi 0,Xi 0]):=by go_enter Tryz.func10,Tryz.ntmps10;go_wp2_with (first|(go_at_call 22;refine (Qb d).mono ?_;rintro e w1 ⟨q,rfl,b⟩));refine bodyPost_ret (results_tmp3 rfl _ _ _) rfl ?_;exact ⟨q,w1,b,rfl,rfl⟩
theorem Qbf (a:QF L i=true):Ze (L i)=true \/ Zx (L i)=true:=by
 unfold QF at a;by_cases b:i=0
 ·subst b;rw [if_pos rfl] at a;simp only [Bool.and_eq_true] at a;exact .inl a.2
 rw [if_neg b] at a;simp only [Bool.and_eq_true,Bool.or_eq_true] at a;exact a.1.2
theorem Qc9 (b:0<i) (a:QF L i=true):1<=(L i).d/\(L i).d<=11/\(L i).d<=(L (i-1)).d+1:=by unfold QF at a;rw [if_neg (by omega)] at a;simp [JM] at a;omega
theorem QaW {m:Qd} (a:Ze m=true \/ Zx m=true):m.an<=5/\∀ j,j<m.an->JU m.nm m.vl j=true/\Ze m=true:=by
 rcases a with a|a
 ·have b:=a;unfold Ze JX at b;simp only [Bool.and_eq_true,decide_eq_true_eq,all_eq_true,mem_range] at b;exact ⟨b.2.1,λj c=>⟨b.2.2 j c,a⟩⟩
 unfold Zx at a;simp only [Bool.and_eq_true,decide_eq_true_eq] at a;have d:m.an=0:=a.1.2;exact ⟨by omega,λj c=>by omega⟩
theorem QeO {nm:Nat->ByteArray} (a:JU nm vl j=true):QK (nm j)=true/\ZD (vl j)=true/\(0<j->Zi (nm (j-1)) (nm j)=true):=by unfold JU at a;simp only [Bool.and_eq_true,Bool.or_eq_true,decide_eq_true_eq] at a;exact ⟨a.1.1,a.1.2,λb=>a.2.resolve_left (by omega)⟩
theorem QjH {m:Qd} (k:Ze m=true \/ Zx m=true):ZM (Zc m):=by
 obtain ⟨_,d⟩:=QaW k;have b:∀ j,j<m.an->∀ i,i<j->Zi (m.nm i) (m.nm j)=true:=by
  intro j;induction j with
  | zero=>intro _ i f;omega
  | succ j ih =>
   intro g i f;have a:=(QeO (d (j+1) g).1).2.2 (by omega);rw [Nat.add_sub_cancel] at a;by_cases e:i=j
   ·subst e;exact a
   exact Qe6 _ _ _ (ih (by omega) i (by omega)) a
 unfold ZM Zc;rw [pairwise_map];refine List.Pairwise.imp_of_mem (fun {x l} o h c=>?_) (pairwise_lt_range (n:=m.an));exact b l (Xa6.1 h) x c
theorem Qjp {m:Qd} {x:ByteArray × ByteArray} (a:x ∈ Zc m):∃ j,j<m.an/\x=(m.nm j,m.vl j):=by unfold Zc at a;obtain ⟨j,b,rfl⟩:=Xa5.1 a;exact ⟨j,Xa6.1 b,rfl⟩
theorem QfD {s:ByteArray} (a:ZD s=true):s.size<=20:=by unfold ZD at a;simpa using a
theorem Qjn {s:ByteArray} (c:s.toList.isEmpty=true):s.size=0:=by
 have b:s.toList=[]:=isEmpty_iff.1 c;have a:s.toList.length=s.size:=by rw [ByteArray.toList_eq,Array.length_toList];rfl
 rw [b] at a;exact a.symm
theorem Qgq {m:Qd} (a:Ze m=true \/ Zx m=true):m.t.size<=8/\m.x.size<=20:=by
 rcases a with a|a
 ·unfold Ze at a;simp only [Bool.and_eq_true] at a;exact ⟨Qd0 a.1.1.1,by have:=Qjn a.1.1.2;omega⟩
 unfold Zx at a;simp only [Bool.and_eq_true] at a;exact ⟨by have:=Qjn a.1.1.1;omega,QfD a.2⟩
theorem QeY.of (f:0<n) (b:∀ i,i<n->QF L i=true):QeY L n where
 zero:=Qfu (b 0 f)
 deep:=λi a c=>⟨(Qc9 c (b i a)).1,(Qc9 c (b i a)).2.1⟩
 par:=λi a c=>by
  obtain ⟨p,g⟩:=Qie c (λj d=>b j (by omega)) (Qc9 c (b i a)).1 (Qc9 c (b i a)).2.2
  rw [g.parent]
  omega
 an:=λi a=>(QaW (Qbf (b i a))).1
 rise:=λi a=>QjH (Qbf (b i a))
 tag:=λi a=>by have:=(Qgq (Qbf (b i a))).1;omega
 text:=λi a=>by have:=(Qgq (Qbf (b i a))).2;omega
 att:=λi a x h=>by
  obtain ⟨j,d,rfl⟩:=Qjp h
  have:=QeO ((QaW (Qbf (b i a))).2 j d).1
  exact ⟨Xb6 (Qd0 this.1) (by decide),Xb6 (QfD this.2.1) (by decide)⟩
theorem Qr2 (l:∀ i,i<n->QF L i=true):Zw (Zd L n):=λm f a c=>by obtain ⟨i,d,rfl⟩:=Xa3 f;rw [Qbx] at c ⊢;rw [Qbg] at d;obtain ⟨j,g,rfl⟩:=Qjp (show a ∈ Zc (L i) from c);obtain ⟨h,b⟩:=(QaW (Qbf (l i d))).2 j g;refine ⟨(QeO h).1,?_⟩;unfold Ze at b;simp only [Bool.and_eq_true] at b;show (L i).t.toList.isEmpty=false;cases k:(L i).t.toList.isEmpty with| false=>rfl| true=>rw [Qgl k] at b;cases b.1.1.1
theorem Qvp (k:0<n) (f:∀ i,i<n->QF L i=true):Qw (Zd L n) n where
 ids:=Qg3 L n
 up:=by
  refine ⟨λx=>((L (x-1).toNat).d).toNat,λm c=>?_,λm c g=>?_⟩
  ·obtain ⟨i,a,rfl⟩:=Xa3 c
   rw [Qbx]
   rw [Qbg] at a
   by_cases b:i=0
   ·subst b;exact .inl rfl
   ·right
    have g:=(QeY.of k f).par i a (by omega)
    have u:=(QfJ L i i).2
    have l:(Q1 L i i).toNat<(Zd L n).length:=by rw [Qbg];omega
    refine ⟨(Zd L n)[(Q1 L i i).toNat],Xa0 l,?_⟩
    rw [Qbx]
    show (((Q1 L i i).toNat:Nat):Int)+1=Qam L i
    unfold Qam
    rw [if_neg b]
    omega
  ·obtain ⟨i,a,rfl⟩:=Xa3 c
   rw [Qbx] at g ⊢
   rw [Qbg] at a
   have o:(Jx L i).par=Qam L i:=rfl
   have q:(Jx L i).id=(i:Int)+1:=rfl
   by_cases b:i=0
   ·subst b;exact absurd rfl g
   ·obtain ⟨p,h⟩:=Qie (by omega) (λj v=>f j (by omega)) (Qc9 (by omega) (f i a)).1 (Qc9 (by omega) (f i a)).2.2
    have r:Qam L i=(p:Int)+1:=by unfold Qam;rw [if_neg b,h.parent]
    rw [o,q,r]
    have s:((p:Int)+1-1).toNat=p:=by omega
    have t:((i:Int)+1-1).toNat=i:=by omega
    have y:=(Qc9 (by omega) (f i a)).1
    have z:=h.up
    simp only [s,t]
    omega
 top:=λm c=>(Qi1 L n m c).1
 root:=by
  have b:0<(Zd L n).length:=by rw [Qbg];exact k
  refine ⟨(Zd L n)[0],Xa0 b,?_,?_⟩
  ·rw [Qbx];rfl
  ·rw [Qbx];rfl
theorem Qj0 (R:List RN) (q:Int):Qf (QA R) q=Qf R q:=by unfold Qf QA;rw [filter_map,map_map];rfl
theorem QuO (nb:Int->Nat) (R:List RN) (i:Int):Z8 nb (QA R) i=Z8 nb R i:=by unfold Z8 QA;rw [any_map];rfl
theorem J3.bare {m:Qz} {nb:Int->Nat} {w:World} {R:List RN} {n:RN} {o p:Value}:J3 m nb w (QA R) n.bare o p↔J3 m nb w R n o p:=by
 constructor
 ·rintro ⟨d,f,g,h,a,i,j,k,l,b,c⟩;exact ⟨d,f,g,h,by have a:=a;rw [Qj0] at a;exact a,i,j,k,l,b,c⟩
 rintro ⟨d,f,g,h,a,i,j,k,l,b,c⟩;exact ⟨d,f,g,h,by rw [Qj0];exact a,i,j,k,l,b,c⟩
theorem Ql.bare {o:Qz} {nb:Int->Nat} {p:Nat} {r:Option Nat} {w:World} {q:Nat} {R:List RN} {last:Int}:Ql o nb p r w q (QA R) last↔Ql o nb p r w q R last:=by
 have s:Z8 nb (QA R)=Z8 nb R:=funext (QuO nb R);constructor
 ·rintro ⟨c,d,f,a,g,h,b⟩;rw [s,Qah] at a;rw [Qah] at b;refine ⟨c,d,f,a,λn i=>?_,h,b⟩;obtain ⟨j,k,l⟩:=g n.bare (Qa5.2 ⟨n,i,rfl⟩);exact ⟨j,k,J3.bare.1 l⟩
 rintro ⟨c,d,f,a,g,h,b⟩;refine ⟨c,d,f,by rw [s,Qah];exact a,λn i=>?_,h,by rw [Qah];exact b⟩;obtain ⟨m,t,rfl⟩:=Qa5.1 i;obtain ⟨j,k,l⟩:=g m t;exact ⟨j,k,J3.bare.2 l⟩
theorem Zw.bare {R:List RN}:Zw (QA R)↔Zw R:=by
 constructor
 ·intro b n a;exact b n.bare (Qa5.2 ⟨n,a,rfl⟩)
 intro b n a;obtain ⟨m,c,rfl⟩:=Qa5.1 a;exact b m c

end Go.Proofs.YtobgcaemnpkbmaaGreat
