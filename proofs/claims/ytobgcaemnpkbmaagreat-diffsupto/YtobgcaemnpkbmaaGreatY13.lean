import Derived.Test.YtobgcaemnpkbmaaGreatY12
import Derived.Test.YtobgcaemnpkbmaaGreatY06
namespace Go.Proofs.YtobgcaemnpkbmaaGreat
set_option maxRecDepth 100000
set_option maxHeartbeats 8000000
open Go.RowKit List
variable {nm:ByteArray} {last:Int} {nb rk:Int->Nat} {l:List (ByteArray × ByteArray)} {R:List RN} {N a f i k mb q:Nat} {rt:Option Nat} {ρ:Qz} {w:World}
theorem Qt3 r nb k s w q R last (b:Ql r nb k s w q R last) (l id pa bf d:Int) (f nm g:ByteArray) (u:0<=last) (v:last<=4611686018427387904) (o:id≠last+1) : Xl 86 #[Xp q,.agg #[Xi l,Xi id,Xi pa,Xi bf,Xi d,.string f,.string nm,.string g]] w λe w'=>e=.returned (.bool false)/\Xb w w':=by
 have m:=Qj b.blk 1 (.map (some k)) rfl;have n:=Qj b.blk 2 (Xi last) rfl;have i:=Q9 b.blk;have t:=b.few;have C:=Qa b;clear b;go_enter Tryz.func86,Tryz.ntmps86;go_wp2_with fail;generalize a:(w.alloc (.cells #[Xi l,Xi id,Xi pa,Xi bf,Xi d,.string f,.string nm,.string g] 29)).alloc (.cells #[Xi 0,.string f,Xi d,Xv,.string g] 33)=h;have c:=Xu a;have j:=X2 a;have D:=Xx a 1 (Xi id) rfl;have E:=Xy a 0 (Xi 0) rfl;have F:=Xy a 1 (.string f) rfl;have G:=Xy a 2 (Xi d) rfl;have H:=Xy a 3 Xv rfl;have I:=Xy a 4 (.string g) rfl;have J:=(Xh c q 1 i).trans m;have K:=(Xh c q 2 i).trans n;have p:=Qa c;have x:=Qa j;have y:q<h.heap.size:=by omega
 have z:w.heap.size<h.heap.size:=by omega
 have A:w.heap.size+1<h.heap.size:=by omega
 clear a c j m n;have B:(id !=last+1)=true:=by simpa using o
 go_big_quiet (fail);go_wp2;go_ret;exact ⟨rfl,Qt p.out _⟩
theorem Qu2 s nb f t w q R last (c:Ql s nb f t w q R last) (m pa bf g:Int) (h nm i:ByteArray) (y:0<=last) (z:last<=4611686018427387904) (u:800<=R.length) : Xl 86 #[Xp q,.agg #[Xi m,Xi (last+1),Xi pa,Xi bf,Xi g,.string h,.string nm,.string i]] w λe w'=>e=.returned (.bool false)/\Xb w w':=by
 have o:=Qj c.blk 1 (.map (some f)) rfl;have p:=Qj c.blk 2 (Xi last) rfl;have j:=Q9 c.blk;have x:=c.few;have r:=Qa c;clear c;go_enter Tryz.func86,Tryz.ntmps86;go_wp2_with fail;generalize a:(w.alloc (.cells #[Xi m,Xi (last+1),Xi pa,Xi bf,Xi g,.string h,.string nm,.string i] 29)).alloc (.cells #[Xi 0,.string h,Xi g,Xv,.string i] 33)=b;have d:=Xu a;have k:=X2 a;have F:=Xx a 1 (Xi (last+1)) rfl;have G:=Xy a 0 (Xi 0) rfl;have H:=Xy a 1 (.string h) rfl;have I:=Xy a 2 (Xi g) rfl;have J:=Xy a 3 Xv rfl;have K:=Xy a 4 (.string i) rfl;have L:=(Xh d q 1 j).trans o;have M:=(Xh d q 2 j).trans p;have l:=Qa d;have A:=Qa k;have B:q<b.heap.size:=by omega
 have C:w.heap.size<b.heap.size:=by omega
 have D:w.heap.size+1<b.heap.size:=by omega
 have v:∀ n ty,(Builtin.len_ #[111] ty #[.map (some f)]).run Tryz.prog (b.drewN n)=.ok (Xi R.length) (b.drewN n):=λn ty=>(r.out.map.heap (w':=b.drewN n) (l.out.block f r.out.map.lt)).len ty;clear a d k o p;have E:(800:Int)<=(R.length:Int):=by omega
 go_big_quiet (fail);go_wp2;go_ret;exact ⟨rfl,Qt l.out _⟩
theorem QuU G nb h H w q R last (k:Ql G nb h H w q R last) (v id pa bf a:Int) (c nm d:ByteArray) (P:0<=last) (S:last<=4611686018427387904) (n:c.size<=maxLen) (o:d.size<=maxLen) (M:R.length<800) (p:id=last+1) (C:Ze (JP c a d)=false) (D:Zx (JP c a d)=false) : Xl 86 #[Xp q,.agg #[Xi v,Xi id,Xi pa,Xi bf,Xi a,.string c,.string nm,.string d]] w λe w'=>e=.returned (.bool false)/\Xb w w':=by
 have E:Hid (∀ w1,Xl 77 #[.agg #[Xi 0,.string c,Xi a,Xv,.string d]] w1 λe w'=>e=.returned (.bool false)/\Xb w1 w'):=Qa λw1=>by have:=Qgi (JP c a d) w1 (QeB w1 a n o);rw [C] at this;exact this
 have F:Hid (∀ w1,Xl 79 #[.agg #[Xi 0,.string c,Xi a,Xv,.string d]] w1 λe w'=>e=.returned (.bool false)/\Xb w1 w'):=Qa λw1=>by have:=Qjt (JP c a d) w1 (QeB w1 a n o);rw [D] at this;exact this
 have T:(id !=last+1)=false:=by rw [p];simp
 have K:IntKind.i64.wrap (last+1)=last+1:=by rw [IntKind.wrap_i64];omega
 clear p;have x:=Qj k.blk 1 (.map (some h)) rfl;have y:=Qj k.blk 2 (Xi last) rfl;have r:=Q9 k.blk;have N:=k.few;have l:=Qa k;clear k;go_enter Tryz.func86,Tryz.ntmps86;go_wp2_with fail;generalize g:(w.alloc (.cells #[Xi v,Xi id,Xi pa,Xi bf,Xi a,.string c,.string nm,.string d] 29)).alloc (.cells #[Xi 0,.string c,Xi a,Xv,.string d] 33)=i;have m:=Xu g;have s:=X2 g;have a1:=Xx g 1 (Xi id) rfl;have a2:=Xy g 0 (Xi 0) rfl;have a3:=Xy g 1 (.string c) rfl;have a4:=Xy g 2 (Xi a) rfl;have a5:=Xy g 3 Xv rfl;have a6:=Xy g 4 (.string d) rfl;have a7:=(Xh m q 1 r).trans x;have a8:=(Xh m q 2 r).trans y;have j:=Qa m;have U:=Qa s;have V:q<i.heap.size:=by omega
 have W:w.heap.size<i.heap.size:=by omega
 have X:w.heap.size+1<i.heap.size:=by omega
 have L:∀ ty,(Builtin.len_ #[111] ty #[.map (some h)]).run Tryz.prog i.drew=.ok (Xi R.length) i.drew:=λty=>(l.out.map.heap (w':=i.drew) (j.out.block h l.out.map.lt)).len ty;have t:Hid (∀ w1 w2,Xb w w1->Xb w1 w2->∀ ty,(Builtin.len_ #[111] ty #[.map (some h)]).run Tryz.prog w2=.ok (Xi R.length) w2):=Qa λw1 w2 z I ty=>(l.out.map.heap (w':=w2) ((I.block h (Xb4 l.out.map.lt z.size)).trans (z.block h l.out.map.lt))).len ty;have B:¬ (800:Int)<=(R.length:Int):=by omega
 have O:decide ((800:Int)<=(R.length:Int))=false:=Xc3 B;clear g m s x y
 go_region_held3 (λw'=>w'.cell? (Xa w.heap.size 1)=some (Xi id)/\w'.cell? (Xa q 2)=some (Xi last)/\w'.cell? (Xa q 1)=some (.map (some h))/\(∀ ty,(Builtin.len_ #[111] ty #[.map (some h)]).run Tryz.prog w'=.ok (Xi R.length) w')/\w'.cell? (Xa (w.heap.size+1) 0)=some (Xi 0)/\w'.cell? (Xa (w.heap.size+1) 1)=some (.string c)/\w'.cell? (Xa (w.heap.size+1) 2)=some (Xi a)/\w'.cell? (Xa (w.heap.size+1) 3)=some Xv/\w'.cell? (Xa (w.heap.size+1) 4)=some (.string d))
   (first
     | go_keep
     | (go_split_ands
        refine ⟨?_,?_,?_,?_,?_,?_,?_,?_,?_⟩
        · (rw [b.cell (by simp;omega)];assumption)
        · (rw [b.cell (by simp;omega)];assumption)
        · (rw [b.cell (by simp;omega)];assumption)
        · exact Qb t _ _ (Qb j).drew b
        · (rw [b.cell (by simp;omega)];assumption)
        · (rw [b.cell (by simp;omega)];assumption)
        · (rw [b.cell (by simp;omega)];assumption)
        · (rw [b.cell (by simp;omega)];assumption)
        · (rw [b.cell (by simp;omega)];assumption))
     | (go_split_ands
        refine ⟨?_,?_,?_,?_,?_,?_,?_,?_,?_⟩
        · (rw [f.cell (by simp;omega)];assumption)
        · (rw [f.cell (by simp;omega)];assumption)
        · (rw [f.cell (by simp;omega)];assumption)
        · exact Qb t _ _ ((Qb j).drew.trans (b.mono (Qb j).size)) f
        · (rw [f.cell (by simp;omega)];assumption)
        · (rw [f.cell (by simp;omega)];assumption)
        · (rw [f.cell (by simp;omega)];assumption)
        · (rw [f.cell (by simp;omega)];assumption)
        · (rw [f.cell (by simp;omega)];assumption)))
   (first|(go_at_call 77;refine (Qb E _).mono ?_;rintro e A ⟨rfl,b⟩;have Y:i.heap.size<=A.heap.size:=b.size)|(go_at_call 79;refine (Qb F _).mono ?_;rintro e J ⟨rfl,f⟩;have a0:A.heap.size<=J.heap.size:=f.size))
 go_wp2;go_ret;have u:=j.out.drew.trans (b.mono j.out.size);exact ⟨rfl,u.trans (f.mono u.size)⟩
theorem Qu4 t nb a u w q R last (f:Ql t nb a u w q R last) (I id pa bf d:Int) (b nm c:ByteArray) (a6:0<=last) (a7:last<=4611686018427387904) (a8:b.size<=maxLen) (a9:c.size<=maxLen) (a0:R.length<800) (ap:Qx R) (a1:∀ n,n ∈ R->n.id<=last/\0<=n.par/\n.par<=last) (a2:b.size<=1000000) (a3:c.size<=1000000) (A:id=last+1) (aa:Ze (JP b d c)=true) : Xl 86 #[Xp q,.agg #[Xi I,Xi id,Xi pa,Xi bf,Xi d,.string b,.string nm,.string c]] w λe w'=>e=.returned (.bool true)/\∃ (l:Int->Nat) (ρ':Qz),(∀ i,i≠last+1->l i=nb i)/\w.heap.size<=l (last+1)/\Zj t ρ' w w'/\Ql ρ' l a u w' q (R++[{ id:=last+1,par:=0,tag:=b,key:=d,text:=c,ats:=[],ao:=none,an:=0,ac:=0 }]) (last+1):=by
 have ab:Hid (∀ w1,Xl 77 #[.agg #[Xi 0,.string b,Xi d,Xv,.string c]] w1 λe w'=>e=.returned (.bool true)/\Xb w1 w'):=Qa λw1=>by have:=Qgi (JP b d c) w1 (QeB w1 d a8 a9);rw [aa] at this;exact this
 have a4:Hid (∀ w1,Xb w w1->Xl 43 #[Xp q,.agg #[Xi 0,.string b,Xi d,Xv,.string c]] w1 (Qhe t nb a u w1 q R last { id:=last+1,par:=0,tag:=b,key:=d,text:=c,ats:=[],ao:=none,an:=0,ac:=0 })):=Qa λw1 aq=>QiQ t nb a u w1 q R last (f.below aq) 0 d b c none 0 0 [] rfl (by omega) List.Pairwise.nil (λj ar=>absurd ar (Xb7 _)) a6 a7 ap a1 a0 a2 a3 (λx au=>by simp at au);have aE:(id !=last+1)=false:=by rw [A];simp
 have aB:IntKind.i64.wrap (last+1)=last+1:=by rw [IntKind.wrap_i64];omega
 clear A;have J:=Qj f.blk 1 (.map (some a)) rfl;have K:=Qj f.blk 2 (Xi last) rfl;have B:=Q9 f.blk;have aC:=f.few;have o:=Qa f;clear f;go_enter Tryz.func86,Tryz.ntmps86;go_wp2_with fail;generalize h:(w.alloc (.cells #[Xi I,Xi id,Xi pa,Xi bf,Xi d,.string b,.string nm,.string c] 29)).alloc (.cells #[Xi 0,.string b,Xi d,Xv,.string c] 33)=k;have p:=Xu h;have C:=X2 h;have L:=Xx h 1 (Xi id) rfl;have M:=Xy h 0 (Xi 0) rfl;have N:=Xy h 1 (.string b) rfl;have O:=Xy h 2 (Xi d) rfl;have P:=Xy h 3 Xv rfl;have T:=Xy h 4 (.string c) rfl;have U:=(Xh p q 1 B).trans J;have V:=(Xh p q 2 B).trans K;have r:=Qa p;have aF:=Qa C;have D:q<k.heap.size:=by omega
 have ad:w.heap.size<k.heap.size:=by omega
 have m:w.heap.size+1<k.heap.size:=by omega
 have Y:∀ ty,(Builtin.len_ #[111] ty #[.map (some a)]).run Tryz.prog k.drew=.ok (Xi R.length) k.drew:=λty=>(o.out.map.heap (w':=k.drew) (r.out.block a o.out.map.lt)).len ty;have ae:Hid (∀ w1 w2,Xb w w1->Xb w1 w2->∀ ty,(Builtin.len_ #[111] ty #[.map (some a)]).run Tryz.prog w2=.ok (Xi R.length) w2):=Qa λw1 w2 W av ty=>(o.out.map.heap (w':=w2) ((av.block a (Xb4 o.out.map.lt W.size)).trans (W.block a o.out.map.lt))).len ty;have a5:¬ (800:Int)<=(R.length:Int):=by omega
 have aD:decide ((800:Int)<=(R.length:Int))=false:=Xc3 a5;clear h p C J K;have E:(λw'=>Xc w' w.heap.size 1 (Xi id)/\Xc w' q 2 (Xi last)/\Xc w' q 1 (.map (some a))/\(∀ ty,(Builtin.len_ #[111] ty #[.map (some a)]).run Tryz.prog w'=.ok (Xi R.length) w')/\Xc w' (w.heap.size+1) 0 (Xi 0)/\Xc w' (w.heap.size+1) 1 (.string b)/\Xc w' (w.heap.size+1) 2 (Xi d)/\Xc w' (w.heap.size+1) 3 Xv/\Xc w' (w.heap.size+1) 4 (.string c)) k.drew:=⟨L,V,U,Y,M,N,O,P,T⟩;refine ZU (S:=(λw'=>w'.cell? (Xa w.heap.size 1)=some (Xi id)/\w'.cell? (Xa q 2)=some (Xi last)/\w'.cell? (Xa q 1)=some (.map (some a))/\(∀ ty,(Builtin.len_ #[111] ty #[.map (some a)]).run Tryz.prog w'=.ok (Xi R.length) w')/\w'.cell? (Xa (w.heap.size+1) 0)=some (Xi 0)/\w'.cell? (Xa (w.heap.size+1) 1)=some (.string b)/\w'.cell? (Xa (w.heap.size+1) 2)=some (Xi d)/\w'.cell? (Xa (w.heap.size+1) 3)=some Xv/\w'.cell? (Xa (w.heap.size+1) 4)=some (.string c))) (by kernel_rfl) ?_;iterate 18
  apply Qbz ?_ E ?_;rotate_left
  ·(intro w' hSw;(try dsimp only at hSw);simp only [Xq];go_simp;try (with_reducible rfl))
  simp only [Xq,Xr]
 refine Qbe 18 ?_;simp only [Xq];go_simp;refine (Qb ab _).mono ?_;rintro e z ⟨rfl,g⟩;have aG:k.heap.size<=z.heap.size:=g.size;have af:=(Xh g w.heap.size 1 ad).trans L;have ag:=(Xh g q 2 D).trans V;have ah:=(Xh g q 1 D).trans U;have aw:=(Xh g (w.heap.size+1) 0 m).trans M;have ax:=(Xh g (w.heap.size+1) 1 m).trans N;have ay:=(Xh g (w.heap.size+1) 2 m).trans O;have az:=(Xh g (w.heap.size+1) 3 m).trans P;have aA:=(Xh g (w.heap.size+1) 4 m).trans T;have s:(λw'=>Xc w' w.heap.size 1 (Xi id)/\Xc w' q 2 (Xi last)/\Xc w' q 1 (.map (some a))/\(∀ ty,(Builtin.len_ #[111] ty #[.map (some a)]).run Tryz.prog w'=.ok (Xi R.length) w')/\Xc w' (w.heap.size+1) 0 (Xi 0)/\Xc w' (w.heap.size+1) 1 (.string b)/\Xc w' (w.heap.size+1) 2 (Xi d)/\Xc w' (w.heap.size+1) 3 Xv/\Xc w' (w.heap.size+1) 4 (.string c)) z:=⟨af,ag,ah,Qb ae _ _ (Qb r).drew g,aw,ax,ay,az,aA⟩;have y:Hid (Xb w z):=Qa (r.out.drew.trans (g.mono r.out.size));refine ⟨.inr s,?_⟩;clear g E;try simp only [Xr]
 refine Qbe 19 ?_;simp only [Xq];go_simp;refine Qbe 20 ?_;simp only [Xq];go_simp;refine QfE (i:=21) (v:=undef) rfl (by kernel_rfl) (by kernel_rfl) (by kernel_rfl) (by kernel_rfl) (λ_ _ _ f=>f) (Or.inr ⟨by rfl,rfl⟩) s ?_;try simp only [Xq,Xr]
 refine QfE (i:=22) (v:=undef) rfl (by kernel_rfl) (by kernel_rfl) (by kernel_rfl) (by kernel_rfl) (λ_ _ _ f=>f) (Or.inr ⟨by rfl,rfl⟩) s ?_;try simp only [Xq,Xr]
 refine QfE (i:=23) (v:=undef) rfl (by kernel_rfl) (by kernel_rfl) (by kernel_rfl) (by kernel_rfl) (λ_ _ _ f=>f) (Or.inr ⟨by rfl,rfl⟩) s ?_;try simp only [Xq,Xr]
 refine Qbe 24 ?_;simp only [Xq];go_simp;refine Qbe 25 ?_;simp only [Xq];go_simp;refine ZP (by kernel_rfl) ?_ _;go_wp2_with (first|(go_at_call 43;refine (Qb a4 _ (Qb y)).mono ?_;rintro e aH ⟨l,ρ',rfl,F,G,X,H⟩;have ai:=Qa F;have aj:=Qa G;have ak:=Qa X;have al:=Qa H;clear F G X H));go_ret;exact ⟨rfl,l,ρ',ai.out,Xb6 y.out.size aj.out,ak.out.after y.out,al.out⟩
theorem Quh t nb f u w q R last (m:Ql t nb f u w q R last) (J id pa bf a:Int) (b nm c:ByteArray) (X:0<=last) (Y:last<=4611686018427387904) (z:b.size<=maxLen) (A:c.size<=maxLen) (P:R.length<800) (a9:Qx R) (S:∀ n,n ∈ R->n.id<=last/\0<=n.par/\n.par<=last) (T:b.size<=1000000) (U:c.size<=1000000) (B:id=last+1) (a0:Ze (JP b a c)=false) (a1:Zx (JP b a c)=true) : Xl 86 #[Xp q,.agg #[Xi J,Xi id,Xi pa,Xi bf,Xi a,.string b,.string nm,.string c]] w λe w'=>e=.returned (.bool true)/\∃ (p:Int->Nat) (ρ':Qz),(∀ i,i≠last+1->p i=nb i)/\w.heap.size<=p (last+1)/\Zj t ρ' w w'/\Ql ρ' p f u w' q (R++[{ id:=last+1,par:=0,tag:=b,key:=a,text:=c,ats:=[],ao:=none,an:=0,ac:=0 }]) (last+1):=by
 have a2:Hid (∀ w1,Xl 77 #[.agg #[Xi 0,.string b,Xi a,Xv,.string c]] w1 λe w'=>e=.returned (.bool false)/\Xb w1 w'):=Qa λw1=>by have:=Qgi (JP b a c) w1 (QeB w1 a z A);rw [a0] at this;exact this
 have a3:Hid (∀ w1,Xl 79 #[.agg #[Xi 0,.string b,Xi a,Xv,.string c]] w1 λe w'=>e=.returned (.bool true)/\Xb w1 w'):=Qa λw1=>by have:=Qjt (JP b a c) w1 (QeB w1 a z A);rw [a1] at this;exact this
 have V:Hid (∀ w1,Xb w w1->Xl 43 #[Xp q,.agg #[Xi 0,.string b,Xi a,Xv,.string c]] w1 (Qhe t nb f u w1 q R last { id:=last+1,par:=0,tag:=b,key:=a,text:=c,ats:=[],ao:=none,an:=0,ac:=0 })):=Qa λw1 aa=>QiQ t nb f u w1 q R last (m.below aa) 0 a b c none 0 0 [] rfl (by omega) List.Pairwise.nil (λj ab=>absurd ab (Xb7 _)) X Y a9 S P T U (λx ad=>by simp at ad);have ar:(id !=last+1)=false:=by rw [B];simp
 have ak:IntKind.i64.wrap (last+1)=last+1:=by rw [IntKind.wrap_i64];omega
 clear B;have K:=Qj m.blk 1 (.map (some f)) rfl;have L:=Qj m.blk 2 (Xi last) rfl;have C:=Q9 m.blk;have ap:=m.few;have r:=Qa m;clear m;go_enter Tryz.func86,Tryz.ntmps86;go_wp2_with fail;generalize k:(w.alloc (.cells #[Xi J,Xi id,Xi pa,Xi bf,Xi a,.string b,.string nm,.string c] 29)).alloc (.cells #[Xi 0,.string b,Xi a,Xv,.string c] 33)=h;have s:=Xu k;have D:=X2 k;have az:=Xx k 1 (Xi id) rfl;have ae:=Xy k 0 (Xi 0) rfl;have af:=Xy k 1 (.string b) rfl;have ag:=Xy k 2 (Xi a) rfl;have ah:=Xy k 3 Xv rfl;have ai:=Xy k 4 (.string c) rfl;have aA:=(Xh s q 1 C).trans K;have aB:=(Xh s q 2 C).trans L;have o:=Qa s;have au:=Qa D;have av:q<h.heap.size:=by omega
 have aw:w.heap.size<h.heap.size:=by omega
 have ax:w.heap.size+1<h.heap.size:=by omega
 have al:∀ ty,(Builtin.len_ #[111] ty #[.map (some f)]).run Tryz.prog h.drew=.ok (Xi R.length) h.drew:=λty=>(r.out.map.heap (w':=h.drew) (o.out.block f r.out.map.lt)).len ty;have E:Hid (∀ w1 w2,Xb w w1->Xb w1 w2->∀ ty,(Builtin.len_ #[111] ty #[.map (some f)]).run Tryz.prog w2=.ok (Xi R.length) w2):=Qa λw1 w2 M aj ty=>(r.out.map.heap (w':=w2) ((aj.block f (Xb4 r.out.map.lt M.size)).trans (M.block f r.out.map.lt))).len ty;have W:¬ (800:Int)<=(R.length:Int):=by omega
 have aq:decide ((800:Int)<=(R.length:Int))=false:=Xc3 W;clear k s D K L
 go_region_held3 (λw'=>w'.cell? (Xa w.heap.size 1)=some (Xi id)/\w'.cell? (Xa q 2)=some (Xi last)/\w'.cell? (Xa q 1)=some (.map (some f))/\(∀ ty,(Builtin.len_ #[111] ty #[.map (some f)]).run Tryz.prog w'=.ok (Xi R.length) w')/\w'.cell? (Xa (w.heap.size+1) 0)=some (Xi 0)/\w'.cell? (Xa (w.heap.size+1) 1)=some (.string b)/\w'.cell? (Xa (w.heap.size+1) 2)=some (Xi a)/\w'.cell? (Xa (w.heap.size+1) 3)=some Xv/\w'.cell? (Xa (w.heap.size+1) 4)=some (.string c))
   (first
     | go_keep
     | (go_split_ands
        refine ⟨?_,?_,?_,?_,?_,?_,?_,?_,?_⟩
        · (rw [d.cell (by simp;omega)];assumption)
        · (rw [d.cell (by simp;omega)];assumption)
        · (rw [d.cell (by simp;omega)];assumption)
        · exact Qb E _ _ (Qb o).drew d
        · (rw [d.cell (by simp;omega)];assumption)
        · (rw [d.cell (by simp;omega)];assumption)
        · (rw [d.cell (by simp;omega)];assumption)
        · (rw [d.cell (by simp;omega)];assumption)
        · (rw [d.cell (by simp;omega)];assumption))
     | (go_split_ands
        refine ⟨?_,?_,?_,?_,?_,?_,?_,?_,?_⟩
        · (rw [g.cell (by simp;omega)];assumption)
        · (rw [g.cell (by simp;omega)];assumption)
        · (rw [g.cell (by simp;omega)];assumption)
        · exact Qb E _ _ ((Qb o).drew.trans (d.mono (Qb o).size)) g
        · (rw [g.cell (by simp;omega)];assumption)
        · (rw [g.cell (by simp;omega)];assumption)
        · (rw [g.cell (by simp;omega)];assumption)
        · (rw [g.cell (by simp;omega)];assumption)
        · (rw [g.cell (by simp;omega)];assumption)))
   (first|(go_at_call 77;refine (Qb a2 _).mono ?_;rintro e N ⟨rfl,d⟩;have a4:h.heap.size<=N.heap.size:=d.size)|(go_at_call 79;refine (Qb a3 _).mono ?_;rintro e y ⟨rfl,g⟩;have ay:N.heap.size<=y.heap.size:=g.size))
 have l:Xb h y:=(Below.refl h.heap.size h).drew.trans (d.trans (g.mono a4));have F:Xb w y:=o.out.trans (l.mono o.out.size);have aC:=(Xh l (w.heap.size+1) 0 (by (try simp);omega)).trans ae;have aD:=(Xh l (w.heap.size+1) 1 (by (try simp);omega)).trans af;have aE:=(Xh l (w.heap.size+1) 2 (by (try simp);omega)).trans ag;have aF:=(Xh l (w.heap.size+1) 3 (by (try simp);omega)).trans ah;have aG:=(Xh l (w.heap.size+1) 4 (by (try simp);omega)).trans ai;have v:=Qa F;clear F l;go_wp2_with (first|(go_at_call 43;refine (Qb V _ (Qb v)).mono ?_;rintro e aH ⟨p,ρ',rfl,G,H,O,I⟩;have a5:=Qa G;have a6:=Qa H;have a7:=Qa O;have a8:=Qa I;clear G H O I));go_ret;exact ⟨rfl,p,ρ',a5.out,Xb6 v.out.size a6.out,a7.out.after v.out,a8.out⟩
def Qm (R:List RN):Nat->Nat->List Int
 | 0,_=>[]
 | f+1,a=>Qg R a::(Qn R (Qg R a)).flatMap (Qm R f)
theorem Qc2 (R:List RN):∀ (f a:Nat) (d:Int),(Qo R f a d).map (λx=>Qg R x.1)=Qm R f a:=by
 intro f;induction f with
 | zero=>intro a d;rfl
 | succ f ih =>intro a d;rw [Qo,Qm,map_cons,map_flatMap];simp only [ih]
theorem QtQ (R:List RN) (nb:Int->Nat) (D:Nat) (c:List Int->World->Prop) (K:Int->Option Addr) (a4:Int->Nat) (a9:R.length<=800) (q:∀ b w,c b w->∀ n,n ∈ R->w.cell? (Xa (nb n.id) 6)=some (.slice (K n.id) (Qf R n.id).length (a4 n.id))/\∀ i x,(Qf R n.id)[i]?=some x->∃ g,K n.id=some (Xa g 0)/\w.cell? (Xa g i)=some (Xp (nb x))) (z:∀ b w n,n ∈ R->n.id ∉ b->c b w->Xl 105 #[Xp (nb n.id),Xp D] w λe w'=>e=.returned (.tuple #[])/\c (b++[n.id]) w') (S:∀ n,n ∈ R->0<n.id) : ∀ (f a:Nat) (b:List Int) (w:World),ZF R f a->(Qm R f a).Nodup->(∀ x,x ∈ Qm R f a->x ∉ b)->c b w -> Xl 68 #[Xp (nb (Qg R a)),.func (.func 105) #[] #[Xp D]] w λe w'=>e=.returned (.tuple #[])/\c (b++Qm R f a) w':=by
 intro f;induction f with
 | zero=>intro a b w a7;exact a7.elim
 | succ f ih =>
  intro a b w T h o u;obtain ⟨L,r⟩:=T;have p:=QV L;have l:R[a] ∈ R:=Xa0 L;have ac:=S _ l;have a8:=QeV R R[a].id;have E:(Qn R R[a].id).length=(Qf R R[a].id).length:=by rw [<- Qcm R (by omega),length_map]
  have B:∀ i,(d:i<(Qn R R[a].id).length)->(Qf R R[a].id)[i]?=some (Qg R (Qn R R[a].id)[i]):=λi d=>by rw [<- Qcm R (by omega),getElem?_map,getElem?_eq_getElem d];rfl
  rw [p] at r;have M:Qm R (f+1) a=R[a].id::(Qn R R[a].id).flatMap (Qm R f):=by rw [Qm,p]
  rw [M] at h o ⊢;rw [p];have P:Hid (Xl 105 #[Xp (nb R[a].id),Xp D] w λe w'=>e=.returned (.tuple #[])/\c (b++[R[a].id]) w'):=Qa (z b w R[a] l (o _ (by simp)) u);have V:Hid (∀ i,(d:i<(Qn R R[a].id).length)->∀ w1,c (b++R[a].id::((Qn R R[a].id).take i).flatMap (Qm R f)) w1->Xl 68 #[Xp (nb (Qg R (Qn R R[a].id)[i])),.func (.func 105) #[] #[Xp D]] w1 λe w'=>e=.returned (.tuple #[])/\c (b++R[a].id::((Qn R R[a].id).take (i+1)).flatMap (Qm R f)) w'):=by
   refine Qa λi d w1 N=>?_;have O:(Qn R R[a].id).take (i+1)=(Qn R R[a].id).take i++[(Qn R R[a].id)[i]]:=take_succ_eq_append_getElem d;have C:(Qn R R[a].id).flatMap (Qm R f)=((Qn R R[a].id).take i).flatMap (Qm R f)++(Qm R f (Qn R R[a].id)[i]++((Qn R R[a].id).drop (i+1)).flatMap (Qm R f)):=by
    conv=>lhs;rw [<- take_append_drop i (Qn R R[a].id),drop_eq_getElem_cons d]
    rw [flatMap_append,flatMap_cons]
   rw [C,nodup_cons,nodup_append,nodup_append] at h;have:=ih (Qn R R[a].id)[i] (b++R[a].id::((Qn R R[a].id).take i).flatMap (Qm R f)) w1 (r _ (Xa0 d)) h.2.2.1.1 (λx v W=>?_) N
   ·rw [O,flatMap_append];simpa using this
   rcases Xa4.1 W with m|m
   ·exact o x (by rw [C];simp [v]) m
   rcases mem_cons.1 m with rfl|m
   ·exact h.1 (by simp [v])
   exact h.2.2.2 x m x (by simp [v]) rfl
  have A:=Qa q;have U:=Qa B;have F:=Qa E;obtain ⟨y,_⟩:=q b w u R[a] l;clear q z ih r h o M u B E p;generalize G:nb R[a].id=ad at *;have X:=Qa G;generalize H:(Qf R R[a].id).length=k at *;have Y:=Qa H;have aa:k<=800:=by omega
  clear G H y;go_enter Tryz.func68,Tryz.ntmps68;go_wp2_with (first|(go_at_call 105;refine (Qb P).mono ?_;rintro e w1 ⟨rfl,s⟩;obtain ⟨y,_⟩:=Qb A _ w1 s R[a] l;rw [Qb X,Qb Y] at y;have a0:=Qa s;clear s));go_loopw [5,14] (λ_ i wr=>∃ j:Nat,j<=k/\i=Xi j/\Hid (c (b++R[a].id::((Qn R R[a].id).take j).flatMap (Qm R f)) wr)) (λ_ i _=>k-(intOf i).toNat);·exact ⟨0,X3,rfl,by simpa using a0⟩
  case round =>
   obtain ⟨j,N,rfl,t⟩:=hrel;by_cases a1:j<k
   ·have I:j<(Qn R R[a].id).length:=by rw [Qb F];exact a1
    obtain ⟨g,a5,ae⟩:=(Qb A _ _ (Qb t) R[a] l).2 j _ (Qb U j I);have a6:=Qa (Qb V j I _ (Qb t));have ab:(j:Int)<(k:Int):=by omega
    rw [a5];go_wp2_with (first|(go_at_call 68;refine (Qb a6).mono ?_;rintro e w2 ⟨rfl,J⟩;have a2:=Qa J;clear J));go_roundw;·exact ⟨j+1,by omega,by go_num,a2⟩
    simp [intOf];omega
   have a3:j=k:=by omega
   subst a3;go_wp2;refine bodyPost_end (results_none rfl _ _ _) rfl ?_;refine ⟨rfl,?_⟩;have:=Qb t;rwa [<- Qb F,take_length] at this
theorem QvC (R:List RN) (nb:Int->Nat) (D:Nat) (c:List Int->World->Prop) (K:Int->Option Addr) (a4:Int->Nat) (a9:R.length<=800) (q:∀ b w,c b w->∀ n,n ∈ R->w.cell? (Xa (nb n.id) 6)=some (.slice (K n.id) (Qf R n.id).length (a4 n.id))/\∀ i x,(Qf R n.id)[i]?=some x->∃ g,K n.id=some (Xa g 0)/\w.cell? (Xa g i)=some (Xp (nb x))) (z:∀ b w n,n ∈ R->n.id ∉ b->c b w->Xl 69 #[Xp (nb n.id),Xp D] w λe w'=>e=.returned (.tuple #[])/\c (b++[n.id]) w') (S:∀ n,n ∈ R->0<n.id) : ∀ (f a:Nat) (b:List Int) (w:World),ZF R f a->(Qm R f a).Nodup->(∀ x,x ∈ Qm R f a->x ∉ b)->c b w -> Xl 68 #[Xp (nb (Qg R a)),.func (.func 69) #[] #[Xp D]] w λe w'=>e=.returned (.tuple #[])/\c (b++Qm R f a) w':=by
 intro f;induction f with
 | zero=>intro a b w a7;exact a7.elim
 | succ f ih =>
  intro a b w T h o u;obtain ⟨L,r⟩:=T;have p:=QV L;have l:R[a] ∈ R:=Xa0 L;have ac:=S _ l;have a8:=QeV R R[a].id;have E:(Qn R R[a].id).length=(Qf R R[a].id).length:=by rw [<- Qcm R (by omega),length_map]
  have B:∀ i,(d:i<(Qn R R[a].id).length)->(Qf R R[a].id)[i]?=some (Qg R (Qn R R[a].id)[i]):=λi d=>by rw [<- Qcm R (by omega),getElem?_map,getElem?_eq_getElem d];rfl
  rw [p] at r;have M:Qm R (f+1) a=R[a].id::(Qn R R[a].id).flatMap (Qm R f):=by rw [Qm,p]
  rw [M] at h o ⊢;rw [p];have P:Hid (Xl 69 #[Xp (nb R[a].id),Xp D] w λe w'=>e=.returned (.tuple #[])/\c (b++[R[a].id]) w'):=Qa (z b w R[a] l (o _ (by simp)) u);have V:Hid (∀ i,(d:i<(Qn R R[a].id).length)->∀ w1,c (b++R[a].id::((Qn R R[a].id).take i).flatMap (Qm R f)) w1->Xl 68 #[Xp (nb (Qg R (Qn R R[a].id)[i])),.func (.func 69) #[] #[Xp D]] w1 λe w'=>e=.returned (.tuple #[])/\c (b++R[a].id::((Qn R R[a].id).take (i+1)).flatMap (Qm R f)) w'):=by
   refine Qa λi d w1 N=>?_;have O:(Qn R R[a].id).take (i+1)=(Qn R R[a].id).take i++[(Qn R R[a].id)[i]]:=take_succ_eq_append_getElem d;have C:(Qn R R[a].id).flatMap (Qm R f)=((Qn R R[a].id).take i).flatMap (Qm R f)++(Qm R f (Qn R R[a].id)[i]++((Qn R R[a].id).drop (i+1)).flatMap (Qm R f)):=by
    conv=>lhs;rw [<- take_append_drop i (Qn R R[a].id),drop_eq_getElem_cons d]
    rw [flatMap_append,flatMap_cons]
   rw [C,nodup_cons,nodup_append,nodup_append] at h;have:=ih (Qn R R[a].id)[i] (b++R[a].id::((Qn R R[a].id).take i).flatMap (Qm R f)) w1 (r _ (Xa0 d)) h.2.2.1.1 (λx v W=>?_) N
   ·rw [O,flatMap_append];simpa using this
   rcases Xa4.1 W with m|m
   ·exact o x (by rw [C];simp [v]) m
   rcases mem_cons.1 m with rfl|m
   ·exact h.1 (by simp [v])
   exact h.2.2.2 x m x (by simp [v]) rfl
  have A:=Qa q;have U:=Qa B;have F:=Qa E;obtain ⟨y,_⟩:=q b w u R[a] l;clear q z ih r h o M u B E p;generalize G:nb R[a].id=ad at *;have X:=Qa G;generalize H:(Qf R R[a].id).length=k at *;have Y:=Qa H;have aa:k<=800:=by omega
  clear G H y;go_enter Tryz.func68,Tryz.ntmps68;go_wp2_with (first|(go_at_call 69;refine (Qb P).mono ?_;rintro e w1 ⟨rfl,s⟩;obtain ⟨y,_⟩:=Qb A _ w1 s R[a] l;rw [Qb X,Qb Y] at y;have a0:=Qa s;clear s));go_loopw [5,14] (λ_ i wr=>∃ j:Nat,j<=k/\i=Xi j/\Hid (c (b++R[a].id::((Qn R R[a].id).take j).flatMap (Qm R f)) wr)) (λ_ i _=>k-(intOf i).toNat);·exact ⟨0,X3,rfl,by simpa using a0⟩
  case round =>
   obtain ⟨j,N,rfl,t⟩:=hrel;by_cases a1:j<k
   ·have I:j<(Qn R R[a].id).length:=by rw [Qb F];exact a1
    obtain ⟨g,a5,ae⟩:=(Qb A _ _ (Qb t) R[a] l).2 j _ (Qb U j I);have a6:=Qa (Qb V j I _ (Qb t));have ab:(j:Int)<(k:Int):=by omega
    rw [a5];go_wp2_with (first|(go_at_call 68;refine (Qb a6).mono ?_;rintro e w2 ⟨rfl,J⟩;have a2:=Qa J;clear J));go_roundw;·exact ⟨j+1,by omega,by go_num,a2⟩
    simp [intOf];omega
   have a3:j=k:=by omega
   subst a3;go_wp2;refine bodyPost_end (results_none rfl _ _ _) rfl ?_;refine ⟨rfl,?_⟩;have:=Qb t;rwa [<- Qb F,take_length] at this
theorem Qv3:∀ {a:List RN} {x:Int},(a.map (·.id)).Nodup->x ∈ a.map (·.id)->(a.filter λn=>n.id !=x).length+1=a.length:=by
 intro a x;induction a with
 | nil=>intro _ c;simp at c
 | cons n a ih =>
  intro b d;rw [map_cons,nodup_cons] at b;by_cases e:n.id=x
  ·have:(a.filter λm=>m.id !=x)=a:=filter_eq_self.2 λm f=>by simp;intro e';exact b.1 (Xa5.2 ⟨m,f,e'.trans e.symm⟩)
   rw [filter_cons_of_neg (by simp [e]),this,length_cons]
  rw [filter_cons_of_pos (by simp [e]),length_cons,length_cons];rw [map_cons,mem_cons] at d;have:=ih b.2 (d.resolve_left λc=>e c.symm);omega
def Qag (R:List RN) (L:List Int):List RN:=R.filter λn=>!(L.contains n.id)
theorem QdG {L:List Int} {n:RN}:n ∈ Qag R L↔n ∈ R/\n.id ∉ L:=by unfold Qag;rw [mem_filter];simp
theorem QrB (R:List RN) (x:Int) (L:List Int):Qag R (x::L)=(Qag R L).filter λn=>n.id !=x:=by unfold Qag;rw [filter_filter];refine filter_congr λn _=>?_;by_cases e:n.id=x<;>by_cases a:n.id ∈ L<;>simp [e,a]<;>simp_all
theorem QkV (g:(R.map (·.id)).Nodup):∀ {L:List Int},L.Nodup->(∀ x,x ∈ L->x ∈ R.map (·.id))->(Qag R L).length+L.length=R.length:=by
 intro L;induction L with
 | nil=>intro _ _;unfold Qag;simp
 | cons x L ih =>intro a b;rw [nodup_cons] at a;have i:=ih a.2 λh c=>b h (by simp [c]);obtain ⟨n,d,e⟩:=Xa5.1 (b x (by simp));have f:((Qag R L).map (·.id)).Nodup:=(List.Sublist.map _ (filter_sublist (l:=R))).nodup g;have j:=Qv3 f (x:=x) (Xa5.2 ⟨n,QdG.2 ⟨d,by rw [e];exact a.1⟩,e⟩);rw [QrB,length_cons];omega
theorem Qjl {x:Int}:x ∈ Qm R f a↔∃ b,b ∈ Qo R f a 0/\Qg R b.1=x:=by rw [<- Qc2 R f a 0,mem_map]
theorem QgV (i:Qx R) (n:ZF R f a):Jl R (Qo R f a 0)=Qag R (Qm R f a):=by
 have g:∀ k,k<=R.length->Jj R (Qo R f a 0) k=Qag (R.take k) (Qm R f a):=by
  intro k;induction k with
  | zero=>intro _;rfl
  | succ k ih =>
   intro o;have b:k<R.length:=o;rw [Jj,ih (by omega),Qdx b];unfold Qag;rw [filter_append];congr 1
   have c:(R.drop k).take 1=[R[k]]:=by rw [drop_eq_getElem_cons b];rfl
   have j:QaL (Qo R f a 0) k=true↔R[k].id ∈ Qm R f a:=by
    rw [Qgw,Qjl];constructor
    ·rintro ⟨d,c⟩;exact ⟨(k,d),c,QV b⟩
    rintro ⟨m,l,e⟩;have h:=(Qc0 i f a 0 n m l).1;rw [QV h] at e;have:=i.inj _ _ h b e;exact ⟨m.2,by rw [<- this];exact l⟩
   by_cases e:R[k].id ∈ Qm R f a
   ·rw [if_pos (j.2 e),filter_cons_of_neg (by simp [e])];rfl
   rw [if_neg (λg=>e (j.1 g)),c,filter_cons_of_pos (by simp [e])];rfl
 unfold Jl;rw [g _ X0,take_length]
theorem Qhy (k:Up R rk) (b:Qx R) (i:ZF R f a):(Qm R f a).Nodup:=by
 rw [<- Qc2 R f a 0];have l:=Qjs k b f a 0 i;have m:(Qo R f a 0).map (λx=>Qg R x.1)=((Qo R f a 0).map (·.1)).map (Qg R):=by rw [map_map];rfl
 rw [m];have h:∀ x,x ∈ (Qo R f a 0).map (·.1)->x<R.length:=λx c=>by obtain ⟨g,d,rfl⟩:=Xa5.1 c;exact (Qc0 b f a 0 i g d).1
 rw [List.Nodup,pairwise_map];refine List.Pairwise.imp_of_mem (fun {x g} c d j e=>?_) l;rw [QV (h x c),QV (h g d)] at e;exact j (b.inj _ _ _ _ e)
theorem Qrk (d:Up R rk) (b:k<R.length):Up (QW R k) rk where
 par:=λn c=>by
  rcases Qgh b c with a|rfl
  ·exact (d.par n a).imp id λa=>(Qih b _).2 a
  ·exact .inl rfl
 rank:=λn c f=>by
  rcases Qgh b c with a|rfl
  ·exact d.rank n a f
  ·exact absurd rfl f
theorem QlG (a:k<R.length) (i:Nat):Qg (QW R k) i=Qg R i:=by
 rw [J2 a];unfold Qg;rw [getElem?_set];by_cases e:k=i
 ·subst e;rw [if_pos rfl,if_pos a,getElem?_eq_getElem a]
 rw [if_neg e]
theorem Qsm (a:k<R.length) (b:k≠i):QaM (QW R k) i=QaM R i:=by rw [J2 a];unfold QaM;rw [getElem?_set,if_neg b]
theorem QoB (a:k<R.length) {q:Int} (c:R[k].par≠q):Qn (QW R k) q=Qn R q:=by
 unfold Qn;by_cases b:q=0
 ·rw [if_pos b,if_pos b]
 rw [if_neg b,if_neg b,Qdj a];unfold QaD;refine filter_congr λi _=>?_;by_cases e:k=i
 ·subst e;have d:QaM (QW R k) k=0:=by rw [J2 a];unfold QaM;rw [getElem?_set,if_pos rfl,if_pos a]
  rw [d,Qbs a];have f:((0:Int)==q)=false:=beq_false_of_ne λe=>b e.symm;have g:(R[k].par==q)=false:=beq_false_of_ne c;rw [f,g]
 rw [Qsm a e]
theorem Qpo (g:Up R rk) (b:k<R.length):∀ (f a:Nat),rk R[k].id<=rk (Qg R a)->Qm (QW R k) f a=Qm R f a:=by
 intro f;induction f with
 | zero=>intro a _;rfl
 | succ f ih =>
  intro a q;rw [Qm,Qm,QlG b];by_cases h:Qg R a=0
  ·rw [h];rfl
  have j:R[k].par≠Qg R a:=λe=>by have:=g.rank R[k] (Xa0 b) (by rw [e];exact h);rw [e] at this;omega
  rw [QoB b j];congr 1
  have n:∀ (l:List Nat),(∀ c,c ∈ l->c ∈ Qn R (Qg R a))->l.flatMap (Qm (QW R k) f)=l.flatMap (Qm R f):=by
   intro l;induction l with
   | nil=>intro _;rfl
   | cons c l m =>intro i;rw [flatMap_cons,flatMap_cons,m λd o=>i d (by simp [o]),ih c (by have:=Qfp g (i c (by simp));omega)]
  exact n _ λ_ p=>p
theorem Qrc (b:0<f):Qg R a ∈ Qm R f a:=by cases f with| zero=>omega| succ f=>rw [Qm];simp
theorem Qqj (g:Qx R) (d:Up R rk) (b:k<R.length):Jl R (Qo R R.length k 0)=Qag (QW R k) (Qm (QW R k) R.length k):=by
 rw [QgV g (Qae d b),Qpo d b _ _ (by rw [QV b];exact X0),J2 b];have c:R[k].id ∈ Qm R R.length k:=by have:=Qrc (R:=R) (f:=R.length) (a:=k) (by omega);rwa [QV b] at this
 generalize Qm R R.length k=L at *;unfold Qag;rw [Qfb _ b];conv=>lhs;rw [Qe9 b]
 simp only [filter_append];rw [filter_cons_of_neg (by simp [c]),filter_cons_of_neg (by simp [c])]
theorem QsT {L:List Int} {q:Int} (b:∀ n,n ∈ R->n.par=q->n.id ∉ L):Qf (Qag R L) q=Qf R q:=by
 unfold Qf Qag;rw [filter_filter];congr 1
 refine filter_congr λn a=>?_;by_cases e:n.par=q
 ·simp [e,b n a e]
 simp [e]
theorem QrN {L:List Int} (i:Int):Z8 nb (Qag R L) i=if i ∈ L then none else Z8 nb R i:=by
 by_cases e:i ∈ L
 ·rw [if_pos e];exact Qen λn a b=>(QdG.1 a).2 (by rw [b];exact e)
 rw [if_neg e];by_cases b:∃ n,n ∈ R/\n.id=i
 ·obtain ⟨n,a,rfl⟩:=b;rw [Qdr a,Qdr (QdG.2 ⟨a,e⟩)]
 rw [Qen (R:=R) λn a e=>b ⟨n,a,e⟩,Qen λn a e=>b ⟨n,(QdG.1 a).1,e⟩]
theorem Qlh (l:Qx R) (d:ZF R f a) (r:i<R.length) (b:R[i].id ∈ Qm R f a):i=a \/ ∃ n,n ∈ R/\n.id=R[i].par/\n.id ∈ Qm R f a:=by
 revert a;induction f with
 | zero=>intro a d;exact d.elim
 | succ f ih =>
  intro a d b;obtain ⟨g,m⟩:=d;rw [Qm,mem_cons,QV g] at b;rcases b with e|b
  ·exact .inl (l.inj _ _ _ _ e)
  right;obtain ⟨c,h,b⟩:=Xa9.1 b;obtain ⟨k,j,_⟩:=Qcy h;rw [Qm,QV g];rcases ih (m c (by rw [QV g];exact h)) b with rfl|⟨n,o,p,q⟩
  ·rw [Qbs k] at j;exact ⟨R[a],Xa0 g,j.symm,by simp⟩
  exact ⟨n,o,p,Xa8 _ (Xa9.2 ⟨c,h,q⟩)⟩
theorem Qww {D b:Nat} {f:Int->Option Nat} i (k:Qu i) (n:Xc w D 0 (Xp q)) (o:Xc w q 1 (.map (some mb))) (p:Xc w b 0 (Xi i)) (c:JJ w mb f N) (d:(f i).isSome=true) : Xl 105 #[Xp b,Xp D] w λe w'=>e=.returned (.tuple #[])/\JJ w' mb (λj=>if j=i then none else f j) (N-1)/\w.grownBy w' (some mb)/\w'.heap.size=w.heap.size:=by have l:=Qa c;have m:=Qa d;clear c d;go_enter Tryz.func105,Tryz.ntmps105;go_still_tail 8,(by kernel_rfl);change wpList _ _ _ _ _ w.drew;go_wp2_with (first|(refine QqB _ rfl _ _ rfl rfl (JJ.heap (w':=w.drew) (Qb l) rfl) i k rfl (Qb m) ?_;intro w2 g a h));refine bodyPost_end (results_none rfl _ _ _) rfl ⟨rfl,Qb g,⟨(Qb a).os,(Qb a).tape,(Qb a).output,(Qb a).size,(Qb a).block⟩,h⟩
theorem Ql.kids_read (s:Ql ρ nb mb rt w q R last) : ∃ (d:Int->Option Addr) (m:Int->Nat),∀ n,n ∈ R->w.cell? (Xa (nb n.id) 6)=some (.slice (d n.id) (Qf R n.id).length (m n.id))/\∀ i x,(Qf R n.id)[i]?=some x->∃ g,d n.id=some (Xa g 0)/\ρ g=some (n.id,2)/\w.cell? (Xa g i)=some (Xp (nb x)):=by
 have o:∀ j:Int,∃ p:Option Addr × Nat,(∃ n,n ∈ R/\n.id=j)->w.cell? (Xa (nb j) 6)=some (.slice p.1 (Qf R j).length p.2)/\∀ i x,(Qf R j)[i]?=some x->∃ g,p.1=some (Xa g 0)/\ρ g=some (j,2)/\w.cell? (Xa g i)=some (Xp (nb x)):=λj=>by
  by_cases h:∃ n,n ∈ R/\n.id=j
  ·obtain ⟨n,c,rfl⟩:=h;obtain ⟨u,v,a⟩:=s.node n c;rcases a.krow.2 with ⟨e,k⟩|⟨g,l,t,e,_⟩
   ·subst e;refine ⟨(none,0),λ_=>⟨by have:=Qj a.blk 6 _ rfl;rw [k];exact this,λi x b=>?_⟩⟩;rw [length_eq_zero_iff.1 k] at b;simp at b
   subst e;refine ⟨(some (Xa g 0),l),λ_=>⟨Qj a.blk 6 _ rfl,λi x b=>⟨g,rfl,a.krole g rfl,?_⟩⟩⟩;rw [a.krow.cellAt i (by have:=(List.getElem?_eq_some_iff.1 b).1;omega)];unfold Jw;rw [getElem?_map,b];rfl
  exact ⟨(none,0),λe=>absurd e h⟩
 obtain ⟨f,r⟩:=Classical.skolem.1 o;exact ⟨λj=>(f j).1,λj=>(f j).2,λn c=>r n.id ⟨n,c,rfl⟩⟩
theorem QtV (c:Ql ρ nb mb rt w q (QW R k) last) (W:Qx R) (z:∃ rk,Up R rk) (f:k<R.length) (a6:∀ n,n ∈ R->Qu n.id) {D:Nat} (ak:Xc w D 0 (Xp q)) (a7:D≠mb) : Xl 68 #[Xp (nb R[k].id),.func (.func 105) #[] #[Xp D]] w λe w'=>e=.returned (.tuple #[])/\Zj ρ ρ w w'/\Ql ρ nb mb rt w' q (Jl R (Qo R R.length k 0)) last:=by
 obtain ⟨rk,z⟩:=z;have l:=QgB W f;have P:=Qrk z f;have S:=Qdj f;have a8:k<(QW R k).length:=by rw [S];exact f
 have r:=Qae P a8;rw [S] at r;have T:=Qhy P l r;have a3:∀ n,n ∈ QW R k->Qu n.id:=λn d=>by obtain ⟨m,L,e⟩:=(Qih f n.id).1 ⟨n,d,rfl⟩;rw [<- e];exact a6 m L
 have a9:Qg (QW R k) k=R[k].id:=by rw [QlG f,QV f]
 rw [Qqj W z f];have a1:(QW R k)[k].par=0:=by simp [J2 f]
 have C:∀ n,n ∈ QW R k->∃ t v,J3 ρ nb w (QW R k) n t v:=c.node;have a4:=c.map;have U:q≠mb:=λe=>by have h:=c.mrole;rw [<- e,c.role] at h;have:=(Xb8 (Xb5 h)).2;omega
 generalize QW R k=a at *;have O:∀ n,n ∈ a->nb n.id≠mb:=λn d e=>by obtain ⟨t,v,A⟩:=C n d;have h:=A.role;rw [e,c.mrole] at h;have:=(Xb8 (Xb5 h)).1;have:=l.pos n d;omega
 obtain ⟨al,ao,a2⟩:=c.kids_read;have a5:∀ x,x ∈ Qm a R.length k->x ∈ a.map (·.id):=λx M=>by obtain ⟨a0,ap,e⟩:=Qjl.1 M;have X:=(Qc0 l _ _ _ r a0 ap).1;exact Xa5.2 ⟨a[a0.1],Xa0 X,by rw [<- e,QV X]⟩
 rw [<- a9];refine (QtQ a nb D (λp w'=>JJ w' mb (λj=>if j ∈ p then none else Z8 nb a j) (a.length-p.length)/\w'.heap.size=w.heap.size/\(∀ b,b≠mb->w'.heap[b]?=w.heap[b]?)/\w'.os=w.os/\w'.tape=w.tape/\w'.output=w.output) al ao c.few ?_ ?_ l.pos R.length k [] w r T (λ_ _ c=>by simp at c) ⟨?_,rfl,λ_ _=>rfl,rfl,rfl,rfl⟩:Calls _ _ _ _ _).mono ?_
 ·rintro p w1 ⟨_,_,o,_⟩ n d;obtain ⟨h,B⟩:=a2 n d;refine ⟨(Xb3 (o _ (O n d))).trans h,λi x M=>?_⟩;obtain ⟨g,e,Y,aq⟩:=B i x M;refine ⟨g,e,(Xb3 (o g λe=>?_)).trans aq⟩;rw [e,c.mrole] at Y;have:=(Xb8 (Xb5 Y)).2;omega
 ·rintro p w1 n d aa ⟨ab,ac,o,E,F,G⟩;obtain ⟨t,v,N⟩:=C n d;refine (Qww n.id (a3 n d) ((Xb3 (o D a7)).trans ak) ((Xb3 (o q U)).trans (Qj c.blk 1 _ rfl)) ((Xb3 (o _ (O n d))).trans (Qj N.blk 0 _ rfl)) ab (by rw [if_neg aa,Qdr d];rfl)).mono ?_;rintro e w2 ⟨rfl,ad,y,ae⟩;refine ⟨rfl,?_,ae.trans ac,λb H=>?_,y.os.trans E,y.tape.trans F,y.output.trans G⟩
  ·rw [length_append,length_singleton,<- Nat.sub_sub];have s:(λj=>if j ∈ p++[n.id] then none else Z8 nb a j)=(λj=>if j=n.id then none else if j ∈ p then none else Z8 nb a j):=by funext j;by_cases ar:j=n.id<;>by_cases au:j ∈ p<;>simp [ar,au]
   rw [s];exact ad
  rcases Nat.lt_or_ge b w1.heap.size with af|ag
  ·exact (y.block b af λe=>H (Xb5 e)).trans (o b H)
  rw [<- o b H,Array.getElem?_eq_none (by omega),Array.getElem?_eq_none ag]
 ·have s:(λj=>if j ∈ ([]:List Int) then none else Z8 nb a j)=Z8 nb a:=by funext j;simp
  rw [s];exact a4
 rintro e w' ⟨rfl,I,V,J,E,F,G⟩;rw [nil_append] at I;have aw:=QkV l.nodup T a5;have s:(λj=>if j ∈ Qm a R.length k then none else Z8 nb a j)=Z8 nb (Qag a (Qm a R.length k)):=by funext j;exact (QrN j).symm
 have ah:a.length-(Qm a R.length k).length=(Qag a (Qm a R.length k)).length:=by omega
 rw [s,ah] at I;refine ⟨rfl,⟨⟨E,F,G,Nat.le_of_eq V.symm,λb _ d=>J b λe=>d (by rw [e,c.mrole];rfl)⟩,λ_ _=>rfl,λ_ e=>.inl e⟩,⟨(J q U).trans c.blk,c.role,c.mrole,I,λn d=>?_,λb e=>by rw [V];exact c.low b e,by have:=c.few;omega⟩⟩;obtain ⟨K,ai⟩:=QdG.1 d;obtain ⟨t,v,N⟩:=C n K;refine ⟨t,v,N.kept (λb j e=>J b λe'=>?_) (λ_ _=>rfl) (QsT λm L A aj=>?_)⟩
 ·rw [e',c.mrole] at e;have:=(Xb8 (Xb5 e)).1;have:=l.pos n K;omega
 obtain ⟨i,av,rfl⟩:=Xa3 L;rcases Qlh l r av aj with rfl|⟨u,ax,h,B⟩
 ·rw [a1] at A;have:=l.pos n K;omega
 rw [h,A] at B;exact ai B
theorem Qq4 t (nb:Int->Nat) f w q R last (c:Ql t nb f (some (nb 1)) w q R last) (g id pa bf h:Int) (i nm j:ByteArray) (o:Qu id) (p:∀ n,n ∈ R->n.id≠id) : Xl 88 #[Xp q,.agg #[Xi g,Xi id,Xi pa,Xi bf,Xi h,.string i,.string nm,.string j]] w λe w'=>e=.returned (.bool false)/\Xb w w':=by
 have k:=Qj c.blk 1 (.map (some f)) rfl;have d:=Q9 c.blk;have l:=Qj c.blk 0 (Xp (nb 1)) rfl;have r:=Qeh c o p;clear c;go_enter Tryz.func88,Tryz.ntmps88;go_wp2_with fail;generalize a:(w.alloc (.cells #[Xp q] 80)).alloc (.cells #[Xi g,Xi id,Xi pa,Xi bf,Xi h,.string i,.string nm,.string j] 29)=m;have b:=Xu a;have u:w.heap.size+1<m.heap.size:=by rw [<- a];simp
 have x:=Xx a 0 (Xp q) rfl;have y:=Xy a 1 (Xi id) rfl;have z:=(Xh b q 1 d).trans k;have A:=(Xh b q 0 d).trans l;have v:=λn=>r.out (m.drewN n) (Qt b n);have s:=Qa b;clear a b k l;go_big_quiet (fail);go_wp2;go_ret;exact ⟨rfl,Qt s.out _⟩
theorem Qvi A (nb:Int->Nat) g w q R last (b:Ql A nb g (some (nb 1)) w q R last) (l pa bf m:Int) (o nm p:ByteArray) (r:Nat) (s:r<R.length) (d:R[r].id=1) : Xl 88 #[Xp q,.agg #[Xi l,Xi 1,Xi pa,Xi bf,Xi m,.string o,.string nm,.string p]] w λe w'=>e=.returned (.bool false)/\Xb w w':=by
 have t:=Qj b.blk 1 (.map (some g)) rfl;have k:=Q9 b.blk;have u:=Qj b.blk 0 (Xp (nb 1)) rfl;obtain ⟨C,D,f⟩:=b.node _ (Xa0 s);have x:Hid (∀ w1,Xb w w1->(binOp .eql 112 (Xp (nb 1)) (Xp (nb 1))).run Tryz.prog w1=.ok (.bool true) w1):=Qa λw1 h=>by
  have v:J7 w1 (nb 1):=by rw [<- d];exact ⟨_,_,(h.block _ f.lt).trans f.blk⟩
  rw [QcP v v,beq_self_eq_true]
 have y:Hid (∀ w1,Xb w w1->(Instr.lookup 111 (.map (some g)) (Xi 1) false).run Tryz.prog w1=.ok (Xp (nb 1)) w1):=Qa λw1 h=>by have:=(b.below h).map.look (i:=1) ⟨by decide,by decide⟩;rw [<- d,Qdr (getElem_mem s),d] at this;exact this
 clear b f d;go_enter Tryz.func88,Tryz.ntmps88;go_wp2_with fail;generalize c:(w.alloc (.cells #[Xp q] 80)).alloc (.cells #[Xi l,Xi 1,Xi pa,Xi bf,Xi m,.string o,.string nm,.string p] 29)=j;have a:=Xu c;have E:w.heap.size+1<j.heap.size:=by rw [<- c];simp
 have G:=Xx c 0 (Xp q) rfl;have H:=Xy c 1 (Xi 1) rfl;have I:=(Xh a q 1 k).trans t;have J:=(Xh a q 0 k).trans u;have F:=λn=>y.out (j.drewN n) (Qt a n);have B:=λn=>x.out (j.drewN n) (Qt a n);have z:=Qa a;clear c a t u;go_big_quiet (fail);go_wp2;go_ret;exact ⟨rfl,Qt z.out _⟩
theorem QtJ i (nb:Int->Nat) c w q R last (a:Ql i nb c (some (nb 1)) w q R last) (A id pa bf B:Int) (C nm E:ByteArray) (J:Qu id) (F:Qx R) (G:∃ rk,Up R rk) (K:∀ n,n ∈ R->Qu n.id) (k:Nat) (o:k<R.length) (d:R[k].id=id) (L:id≠1) (r:Nat) (a0:r<R.length) (j:R[r].id=1) : Xl 88 #[Xp q,.agg #[Xi A,Xi id,Xi pa,Xi bf,Xi B,.string C,.string nm,.string E]] w λe w'=>e=.returned (.bool true)/\∃ ρ',Zj i ρ' w w'/\Ql ρ' nb c (some (nb 1)) w' q (Jl R (Qo R R.length k 0)) last:=by
 have H:=Qj a.blk 1 (.map (some c)) rfl;have t:=Q9 a.blk;have I:=Qj a.blk 0 (Xp (nb 1)) rfl;obtain ⟨a7,a8,l⟩:=a.node _ (Xa0 a0);obtain ⟨a9,aa,m⟩:=a.node _ (Xa0 o);have u:nb id≠nb 1:=λe=>by have:=m.nb_inj l (by rw [d,j];exact e);rw [d,j] at this;exact L this
 have M:Hid (∀ w1,Xb w w1->(binOp .eql 112 (Xp (nb id)) (Xp (nb 1))).run Tryz.prog w1=.ok (.bool false) w1):=Qa λw1 g=>by
  have a1:J7 w1 (nb 1):=by rw [<- j];exact ⟨_,_,(g.block _ l.lt).trans l.blk⟩
  have a2:J7 w1 (nb id):=by rw [<- d];exact ⟨_,_,(g.block _ m.lt).trans m.blk⟩
  have:=QcP a2 a1;rwa [beq_false_of_ne (λe=>u (by simpa using e))] at this
 have N:Hid (∀ w1,Xb w w1->Xl 104 #[Xp (nb id)] w1 λe w'=>e=.returned (.tuple #[])/\∃ ρ',Zj i ρ' w1 w'/\Ql ρ' nb c (some (nb 1)) w' q (QW R k) last):=Qa λw1 g=>by rw [<- d];exact Qis i nb c _ w1 q R last (a.below g) F G k o
 have O:Hid (∀ ρ' w2 D,Ql ρ' nb c (some (nb 1)) w2 q (QW R k) last->w2.cell? (Xa D 0)=some (Xp q)->D≠c->Xl 68 #[Xp (nb id),.func (.func 105) #[] #[Xp D]] w2 λe w'=>e=.returned (.tuple #[])/\Zj ρ' ρ' w2 w'/\Ql ρ' nb c (some (nb 1)) w' q (Jl R (Qo R R.length k 0)) last):=Qa fun ρ' w2 D a3 a4 P=>by rw [<- d];exact QtV a3 F G o K a4 P
 have S:Hid (∀ b,(i b).isSome=true->b<w.heap.size):=Qa a.low;have T:w.heap.size≠c:=λe=>by have:=a.map.lt;omega
 have U:Hid (∀ w1,Xb w w1->(Instr.lookup 111 (.map (some c)) (Xi id) false).run Tryz.prog w1=.ok (Xp (nb id)) w1):=Qa λw1 g=>by have:=(a.below g).map.look J;rw [<- d,Qdr (getElem_mem o),d] at this;exact this
 clear u;have ab:=Qa a.mrole;clear a l m d j;go_enter Tryz.func88,Tryz.ntmps88;go_wp2_with fail;generalize h:(w.alloc (.cells #[Xp q] 80)).alloc (.cells #[Xi A,Xi id,Xi pa,Xi bf,Xi B,.string C,.string nm,.string E] 29)=p;have f:=Xu h;have ac:w.heap.size+1<p.heap.size:=by rw [<- h];simp
 have a5:=Xx h 0 (Xp q) rfl;have ae:=Xy h 1 (Xi id) rfl;have af:=(Xh f q 1 t).trans H;have ag:=(Xh f q 0 t).trans I;have ad:=λn=>U.out (p.drewN n) (Qt f n);have a6:=λn=>M.out (p.drewN n) (Qt f n);have v:=Qa f;clear h f H I;go_big_quiet (fail);go_wp2_with fail;refine (N.out _ (Qt v.out _)).mono ?_;rintro e w2 ⟨rfl,x,s,y⟩;have z:w2.cell? (Xa w.heap.size 0)=some (Xp q):=by rw [World.cell?_of_block (s.1.block w.heap.size (by show w.heap.size<p.heap.size;omega) (λe=>by have:=S.out _ e;omega))];exact a5
 have V:=Qa (O.out x w2 w.heap.size y z T);have W:=Qa s;clear s y z;go_wp2_with (first|(go_at_call 68;refine (Qb V).mono ?_;rintro e w3 ⟨rfl,X,Y⟩));go_ret;exact ⟨rfl,x,Zj.after (Qt v.out _) (W.out.trans X),Y⟩
theorem Qlj (l:List (ByteArray × ByteArray)) (k:Nat) (v:ByteArray) (b:k<l.length):(QS l).set (k*2+1) (.string v)=QS (l.set k (l[k].1,v)):=by induction l generalizing k with| nil=>exact absurd b (Xb7 _)| cons a l ih =>have e:QS (a::l)=.string a.1::.string a.2::QS l:=rfl;cases k with| zero=>rfl| succ k =>rw [e,show (k+1)*2+1=k*2+1+1+1 by omega,set_cons_succ,set_cons_succ,ih k (by simpa using b)];rfl
theorem QlE {vl:ByteArray} (d:ZM l) (a:Zu l nm=true) (b:QB l nm<l.length):l.set (QB l nm) (l[QB l nm].1,vl)=QQ l nm vl:=by
 have c:l[QB l nm].1=nm:=by unfold Zu at a;rw [decide_eq_true b,Bool.true_and,Qcg b] at a;exact Qjx a
 have f:Qap l nm=1:=by unfold Qap;rw [a];rfl
 rw [QfM d,f,c,set_eq_take_append_cons_drop,if_pos b];simp
theorem Qo8 {vl:ByteArray} (b:ZM l) (c:Zu l nm=false) : (QS (l.take (QB l nm)++[(nm,⟨#[]⟩)]++l.drop (QB l nm))).set (QB l nm*2+1) (.string vl)=QS (QQ l nm vl):=by
 have h:=QdL l nm;have d:Qap l nm=0:=by unfold Qap;rw [c];rfl
 have a:(l.take (QB l nm)).length=QB l nm:=by rw [length_take];omega
 have f:QB l nm<(l.take (QB l nm)++[(nm,(⟨#[]⟩:ByteArray))]++l.drop (QB l nm)).length:=by rw [length_append,length_append,a];simp;omega
 rw [Qlj _ _ _ f,QfM b,d];congr 1
 have g:(l.take (QB l nm)++[(nm,(⟨#[]⟩:ByteArray))]++l.drop (QB l nm))[QB l nm]=(nm,⟨#[]⟩):=by rw [getElem_append_left (by rw [length_append,a];simp),getElem_append_right (by omega)];simp [a]
 rw [g,set_append_left _ _ (by rw [length_append,a];simp),set_append_right _ _ (by omega),a,Nat.sub_self];rfl
theorem QtN r nb d s w q R last (b:Ql r nb d s w q R last) (f id pa bf g:Int) (h nm i:ByteArray) (k:Qu id) (l:∀ n,n ∈ R->n.id≠id) : Xl 89 #[Xp q,.agg #[Xi f,Xi id,Xi pa,Xi bf,Xi g,.string h,.string nm,.string i]] w λe w'=>e=.returned (.bool false)/\Xb w w':=by have j:=Qj b.blk 1 (.map (some d)) rfl;have m:=Q9 b.blk;have o:=Qeh b k l;clear b;go_enter Tryz.func89,Tryz.ntmps89;go_wp2_with fail;generalize c:w.alloc (.cells #[Xi f,Xi id,Xi pa,Xi bf,Xi g,.string h,.string nm,.string i] 29)=t;obtain ⟨a,u,-,v,-,-,-,-,-,-⟩:=QbN c;have x:=(Xh a q 1 m).trans j;have y:=λn=>o.out (t.drewN n) (Qt a n);have p:=Qa a;clear c a j;go_big_quiet (fail);go_wp2;go_ret;exact ⟨rfl,Qt p.out _⟩
theorem Qrw y nb i z w q R last (c:Ql y nb i z w q R last) (j id pa bf l:Int) (m nm f:ByteArray) (k:Nat) (g:k<R.length) (t:Qu R[k].id) (r:R[k].id=id) (s:R[k].tag.toList.isEmpty=true) : Xl 89 #[Xp q,.agg #[Xi j,Xi id,Xi pa,Xi bf,Xi l,.string m,.string nm,.string f]] w λe w'=>e=.returned (.bool false)/\Xb w w':=by
 subst r;obtain ⟨C,D,A⟩:=c.node _ (Xa0 g);have o:=Qj c.blk 1 (.map (some i)) rfl;have u:=Q9 c.blk;have v:=Jf c g t;have x:=Qa3 c g (b:=false) (by rw [s];rfl);clear c A;go_enter Tryz.func89,Tryz.ntmps89;go_wp2_with fail;generalize a:w.alloc (.cells #[Xi j,Xi R[k].id,Xi pa,Xi bf,Xi l,.string m,.string nm,.string f] 29)=p;have d:=Xt a;have B:w.heap.size<p.heap.size:=by rw [<- a];simp
 have E:=Xz a 1 (Xi R[k].id) rfl;have F:=Xz a 6 (.string nm) rfl;have G:=Xz a 7 (.string f) rfl;have H:=(Xh d q 1 u).trans o;have I:=λn=>v.out (p.drewN n) (Qt d n);have h:=Qa d;clear a d o;go_big_quiet (fail);go_wp2_with (first|(go_at_call 102;refine (Qb x _ (Qt (Qb h) _)).mono ?_;rintro e w1 ⟨rfl,rfl⟩));go_ret;exact ⟨rfl,Qt h.out _⟩
theorem QvR B nb i C w q R last (a:Ql B nb i C w q R last) (j id pa bf l:Int) (m nm f:ByteArray) (k:Nat) (g:k<R.length) (t:Qu R[k].id) (r:R[k].id=id) (s:R[k].tag.toList.isEmpty=false) (u:nm.size<=maxLen) (v:QK nm=false) : Xl 89 #[Xp q,.agg #[Xi j,Xi id,Xi pa,Xi bf,Xi l,.string m,.string nm,.string f]] w λe w'=>e=.returned (.bool false)/\Xb w w':=by
 subst r;obtain ⟨F,G,D⟩:=a.node _ (Xa0 g);have o:=Qj a.blk 1 (.map (some i)) rfl;have x:=Q9 a.blk;have y:=Jf a g t;have z:=Qa3 a g (b:=true) (by rw [s];rfl);have A:Hid (∀ w1,Xl 97 #[.string nm] w1 λe w'=>e=.returned (.bool false)/\w1=w'):=Qa λw1=>(Qbn nm _ v u w1).mono λ_ _ a=>⟨a.1,a.2.symm⟩;clear a D;go_enter Tryz.func89,Tryz.ntmps89;go_wp2_with fail;generalize c:w.alloc (.cells #[Xi j,Xi R[k].id,Xi pa,Xi bf,Xi l,.string m,.string nm,.string f] 29)=p;have d:=Xt c;have E:w.heap.size<p.heap.size:=by rw [<- c];simp
 have H:=Xz c 1 (Xi R[k].id) rfl;have I:=Xz c 6 (.string nm) rfl;have J:=Xz c 7 (.string f) rfl;have K:=(Xh d q 1 x).trans o;have L:=λn=>y.out (p.drewN n) (Qt d n);have h:=Qa d;clear c d o;go_big_quiet (fail);go_wp2_with (first|(go_at_call 102;refine (Qb z _ (Qt (Qb h) _)).mono ?_;rintro e w1 ⟨rfl,rfl⟩)|(go_at_call 97;refine (Qb A _).mono ?_;rintro e w1 ⟨rfl,rfl⟩));go_ret;exact ⟨rfl,Qt h.out _⟩
theorem Qtw E nb i F w q R last (a:Ql E nb i F w q R last) (j id pa bf l:Int) (m nm c:ByteArray) (k:Nat) (g:k<R.length) (t:Qu R[k].id) (r:R[k].id=id) (s:R[k].tag.toList.isEmpty=false) (u:nm.size<=maxLen) (v:QK nm=true) (x:c.size<=maxLen) (y:ZD c=false) : Xl 89 #[Xp q,.agg #[Xi j,Xi id,Xi pa,Xi bf,Xi l,.string m,.string nm,.string c]] w λe w'=>e=.returned (.bool false)/\Xb w w':=by
 subst r;obtain ⟨I,J,G⟩:=a.node _ (Xa0 g);have o:=Qj a.blk 1 (.map (some i)) rfl;have z:=Q9 a.blk;have A:=Jf a g t;have B:=Qa3 a g (b:=true) (by rw [s];rfl);have C:Hid (∀ w1,Xl 97 #[.string nm] w1 λe w'=>e=.returned (.bool true)/\w1=w'):=Qa λw1=>(Qbn nm _ v u w1).mono λ_ _ a=>⟨a.1,a.2.symm⟩;have D:Hid (∀ w1,Xl 99 #[.string c] w1 λe w'=>e=.returned (.bool false)/\w1=w'):=Qa λw1=>(QcU c _ y x w1).mono λ_ _ a=>⟨a.1,a.2.symm⟩;clear a G;go_enter Tryz.func89,Tryz.ntmps89;go_wp2_with fail;generalize d:w.alloc (.cells #[Xi j,Xi R[k].id,Xi pa,Xi bf,Xi l,.string m,.string nm,.string c] 29)=p;have f:=Xt d;have H:w.heap.size<p.heap.size:=by rw [<- d];simp
 have K:=Xz d 1 (Xi R[k].id) rfl;have L:=Xz d 6 (.string nm) rfl;have M:=Xz d 7 (.string c) rfl;have N:=(Xh f q 1 z).trans o;have O:=λn=>A.out (p.drewN n) (Qt f n);have h:=Qa f;clear d f o;go_big_quiet (fail);go_wp2_with (first|(go_at_call 102;refine (Qb B _ (Qt (Qb h) _)).mono ?_;rintro e w1 ⟨rfl,rfl⟩)|(go_at_call 97;refine (Qb C _).mono ?_;rintro e w1 ⟨rfl,rfl⟩)|(go_at_call 99;refine (Qb D _).mono ?_;rintro e w1 ⟨rfl,rfl⟩));go_ret;exact ⟨rfl,Qt h.out _⟩
theorem Qw5 s nb t S w q R last (a:Ql s nb t S w q R last) (u id pa bf v:Int) (x nm d:ByteArray) (k:Nat) (o:k<R.length) (D:Qu R[k].id) (A:R[k].id=id) (B:R[k].tag.toList.isEmpty=false) (E:nm.size<=maxLen) (F:QK nm=true) (G:d.size<=maxLen) (H:ZD d=true) (C:Zu R[k].ats nm=false) (a0:5<=R[k].ats.length) : Xl 89 #[Xp q,.agg #[Xi u,Xi id,Xi pa,Xi bf,Xi v,.string x,.string nm,.string d]] w λe w'=>e=.returned (.bool false)/\Xb w w':=by
 subst A;obtain ⟨a1,a2,h⟩:=a.node _ (Xa0 o);have y:=Qj a.blk 1 (.map (some t)) rfl;have I:=Q9 a.blk;have J:=Jf a o D;have K:=Qa3 a o (b:=true) (by rw [B];rfl);have L:Hid (∀ w1,Xl 97 #[.string nm] w1 λe w'=>e=.returned (.bool true)/\w1=w'):=Qa λw1=>(Qbn nm _ F E w1).mono λ_ _ a=>⟨a.1,a.2.symm⟩;have M:Hid (∀ w1,Xl 99 #[.string d] w1 λe w'=>e=.returned (.bool true)/\w1=w'):=Qa λw1=>(QcU d _ H G w1).mono λ_ _ a=>⟨a.1,a.2.symm⟩;have N:Hid (∀ w1,Xb w w1->Xl 106 #[Xp (nb R[k].id),.string nm] w1 λe w'=>e=.returned (.tuple #[Xi (QB R[k].ats nm),.bool false])/\Xb w1 w'):=Qa λw1 T=>by have:=QfZ (h.kept (R':=R) (w':=w1) (ρ':=s) (λb j e=>T.block b (a.low b (by rw [e];rfl))) (λ_ _=>rfl) rfl) nm;rw [C] at this;exact this
 obtain ⟨ao,c,rfl⟩:=Qy h.arow;have U:=Qj h.blk 4 (.slice ao R[k].ats.length c) rfl;have O:=h.lt;have X:(5:Int)<=(R[k].ats.length:Int):=by omega
 clear a h;go_enter Tryz.func89,Tryz.ntmps89;go_wp2_with fail;generalize f:w.alloc (.cells #[Xi u,Xi R[k].id,Xi pa,Xi bf,Xi v,.string x,.string nm,.string d] 29)=z;have i:=Xt f;have m:w.heap.size<z.heap.size:=by rw [<- f];simp
 have a3:=Xz f 1 (Xi R[k].id) rfl;have V:=Xz f 6 (.string nm) rfl;have W:=Xz f 7 (.string d) rfl;have a4:=(Xh i q 1 I).trans y;have a5:=λn=>J.out (z.drewN n) (Qt i n);have l:=Qa i;clear f i y;go_big_quiet (fail);go_wp2_with (first|(go_at_call 102;refine (Qb K _ (Qt (Qb l) _)).mono ?_;rintro e w1 ⟨rfl,rfl⟩)|(go_at_call 97;refine (Qb L _).mono ?_;rintro e w1 ⟨rfl,rfl⟩)|(go_at_call 99;refine (Qb M _).mono ?_;rintro e w1 ⟨rfl,rfl⟩)|(go_at_call 106;refine (Qb N _ (Qt (Qb l) _)).mono ?_;rintro e w1 ⟨rfl,g⟩;have a6:=(Xh g w.heap.size 6 m).trans V;have a7:=(Xh g w.heap.size 7 m).trans W;have P:=g.size;have Y:w.heap.size<w1.heap.size:=Xb4 m P;have r:=Qa ((Qt (Qb l) _).trans (g.mono (Qb l).size));have a8:=((Qb r).cell (p:=(Xa (nb R[k].id) 4)) O).trans U;clear g));go_ret;exact ⟨rfl,r.out⟩
theorem QsE o nb D L w q R last (f:Ql o nb D L w q R last) (M id pa bf N:Int) (O nm a:ByteArray) (k:Nat) (z:k<R.length) (X:Qu R[k].id) (U:R[k].id=id) (ad:Qx R) (V:R[k].tag.toList.isEmpty=false) (H:nm.size<=maxLen) (Y:QK nm=true) (I:a.size<=maxLen) (a0:ZD a=true) (a1:a.size<=281474976710656) (l:Zu R[k].ats nm=true) : Xl 89 #[Xp q,.agg #[Xi M,Xi id,Xi pa,Xi bf,Xi N,.string O,.string nm,.string a]] w λe w'=>e=.returned (.bool true)/\∃ ρ',Zj o ρ' w w'/\Ql ρ' nb D L w' q (R.set k { R[k] with ats:=QQ R[k].ats nm a }) last:=by
 subst U;obtain ⟨ae,af,h⟩:=f.node _ (Xa0 z);have P:=Qj f.blk 1 (.map (some D)) rfl;have a2:=Q9 f.blk;have a3:=Jf f z X;have a4:=Qa3 f z (b:=true) (by rw [V];rfl);have a5:Hid (∀ w1,Xl 97 #[.string nm] w1 λe w'=>e=.returned (.bool true)/\w1=w'):=Qa λw1=>(Qbn nm _ Y H w1).mono λ_ _ f=>⟨f.1,f.2.symm⟩;have a6:Hid (∀ w1,Xl 99 #[.string a] w1 λe w'=>e=.returned (.bool true)/\w1=w'):=Qa λw1=>(QcU a _ a0 I w1).mono λ_ _ f=>⟨f.1,f.2.symm⟩;have a7:Hid (∀ w1,Xb w w1->Xl 106 #[Xp (nb R[k].id),.string nm] w1 λe w'=>e=.returned (.tuple #[Xi (QB R[k].ats nm),.bool true])/\Xb w1 w'):=Qa λw1 E=>by have:=QfZ (h.kept (R':=R) (w':=w1) (ρ':=o) (λb j e=>E.block b (f.low b (by rw [e];rfl))) (λ_ _=>rfl) rfl) nm;rw [l] at this;exact this
 have A:QB R[k].ats nm<R[k].ats.length:=by unfold Zu at l;simp only [Bool.and_eq_true,decide_eq_true_eq] at l;exact l.1
 obtain ⟨g,c,rfl⟩:∃ g c,ae=Xe g R[k].ats.length c:=by
  rcases h.arow.2 with ⟨_,e⟩|⟨g,a8,av,e,_⟩
  ·omega
  exact ⟨g,a8,e⟩
 have au:=h.few;have ag:=Qj h.blk 4 (Xe g R[k].ats.length c) rfl;have a9:=h.lt;have aa:g≠nb R[k].id:=λe=>by have:=h.arole g rfl;rw [e,h.role] at this;have:=(Xb8 (Xb5 this)).2;omega
 have J:g<w.heap.size:=(h.arow.lt g rfl).2;obtain ⟨S,ah⟩:∃ S,w.cell? (Xa g (QB R[k].ats nm*2+1))=some S:=by rw [h.arow.cellAt _ (by omega)];exact ⟨_,Xa1 (by rw [Qei];omega)⟩
 have ai:=h.arow.frozenAt (QB R[k].ats nm*2+1);have ab:Hid (∀ w1,Xl 63 #[.string a] w1 λe w'=>e=.returned (.string a)/\Xb w1 w'):=Qa λw1=>Qc5 a w1 a1;have F:=Qa f;have d:=Qa h;have aw:(0:Int)<=(QB R[k].ats nm:Int):=by omega
 have ax:(QB R[k].ats nm:Int)<(R[k].ats.length:Int):=by omega
 clear f h;go_enter Tryz.func89,Tryz.ntmps89;go_wp2_with fail;generalize m:w.alloc (.cells #[Xi M,Xi R[k].id,Xi pa,Xi bf,Xi N,.string O,.string nm,.string a] 29)=T;have v:=Xt m;have C:w.heap.size<T.heap.size:=by rw [<- m];simp
 have aB:=Xz m 1 (Xi R[k].id) rfl;have aj:=Xz m 6 (.string nm) rfl;have ak:=Xz m 7 (.string a) rfl;have aC:=(Xh v q 1 a2).trans P;have aD:=λn=>a3.out (T.drewN n) (Qt v n);have y:=Qa v;clear m v P;go_big_quiet (fail);go_wp2_with (first|(go_at_call 102;refine (Qb a4 _ (Qt (Qb y) _)).mono ?_;rintro e w1 ⟨rfl,rfl⟩)|(go_at_call 97;refine (Qb a5 _).mono ?_;rintro e w1 ⟨rfl,rfl⟩)|(go_at_call 99;refine (Qb a6 _).mono ?_;rintro e w1 ⟨rfl,rfl⟩)|(go_at_call 106;refine (Qb a7 _ (Qt (Qb y) _)).mono ?_;rintro e w1 ⟨rfl,s⟩;have al:=(Xh s w.heap.size 6 C).trans aj;have aE:=(Xh s w.heap.size 7 C).trans ak;have ac:=s.size;have ay:w.heap.size<w1.heap.size:=Xb4 C ac;have t:=Qa ((Qt (Qb y) _).trans (s.mono (Qb y).size));have aF:=((Qb t).cell (p:=(Xa (nb R[k].id) 4)) a9).trans ag;clear s));have az:nb R[k].id<w1.heap.size:=by omega
 have aA:g<w1.heap.size:=by omega
 have pv:=(Xh t.out g (QB R[k].ats nm*2+1) J).trans ah;have aG:=(Xj t.out g (QB R[k].ats nm*2+1) J).trans ai;have ao:nb R[k].id≠g:=λe=>aa e.symm;have ap:w.heap.size≠g:=by omega
 have aH:g≠w.heap.size:=by omega
 clear al
 go_region_held3 (λw'=>w'.frozen? (Xa g (QB R[k].ats nm*2+1))=false/\w'.cell? (Xa (nb R[k].id) 4)=some (Xe g R[k].ats.length c)/\w'.cell? (Xa w.heap.size 7)=some (.string a))
   (first
     | go_keep
     | (go_split_ands
        refine ⟨?_,?_,?_⟩
        · (rw [u.frozen (by simp;omega)];assumption)
        · (rw [u.cell (by simp;omega)];assumption)
        · (rw [u.cell (by simp;omega)];assumption))
     | (go_split_ands
        refine ⟨?_,?_,?_⟩
        · (rw [World.frozen?_setCell];assumption)
        · (first|(rw [World.cell?_of_block (X5 ao)];assumption)|go_keep)
        · (first|(rw [World.cell?_of_block (X5 ap)];assumption)|go_keep)))
   ((go_at_call 63;refine (Qb ab _).mono ?_;rintro e w2 ⟨rfl,u⟩;have aI:=(Xh u g (QB R[k].ats nm*2+1) (by (try simp);omega)).trans pv))
 go_wp2;go_ret;have i:=Qa (t.out.trans (((Below.refl w1.heap.size w1).drew.trans u).mono t.out.size));refine ⟨rfl,o,⟨⟨i.out.os,i.out.tape,i.out.output,by rw [QJ];exact i.out.size,λb E aq=>?_⟩,λ_ _=>rfl,λ_ f=>.inl f⟩,?_⟩
 ·exact (X5 (λe=>aq (by rw [e];show (o g).isSome=true;rw [d.out.arole g rfl];rfl))).trans (i.out.block b E)
 have B:∀ b r,o b=some r->r≠(R[k].id,1)->(w2.setCell (Xa g (QB R[k].ats nm*2+1)) (.string a)).heap[b]?=w.heap[b]?:=λb r e G=>by refine (X5 (λx=>G ?_)).trans (i.out.block b (F.out.low b (by rw [e];rfl)));have x:b=g:=x;rw [x,d.out.arole g rfl] at e;exact (Xb5 e).symm
 have K:=((QX d.out.arow i.out).stored (QB R[k].ats nm*2+1) (.string a)).1;rw [Qlj _ _ _ A,QlE d.out.rise l A] at K;have W:(QQ R[k].ats nm a).length=R[k].ats.length:=by rw [<- QlE d.out.rise l A,length_set]
 refine Ql.put (n':={ R[k] with ats:=QQ R[k].ats nm a }) (av':=Xe g R[k].ats.length c) (kv':=af) F.out ad z rfl rfl (λ_ _=>rfl) (λb e=>by rw [QJ];exact Xb4 (F.out.low b e) i.out.size) (λb r e G=>B b r e (λx=>G (by rw [x]))) ⟨?_,d.out.role,?_,d.out.arole,?_,d.out.krole,?_,Qgg d.out.rise,d.out.tag,d.out.text,λx ar=>(Qgu ar).elim (d.out.size x) (λe=>by rw [e];exact ⟨H,I⟩)⟩
 ·exact (B _ _ d.out.role (λx=>by have:=(Xb8 x).2;omega)).trans d.out.blk
 ·show World.ownsRow _ _ _ _ _ (QQ R[k].ats nm a).length _;rw [W];exact K
 ·exact Q8 d.out.krow λb e=>B b _ (d.out.krole b e) (λx=>by have:=(Xb8 x).2;omega)
 show (QQ R[k].ats nm a).length<=5;omega
end Go.Proofs.YtobgcaemnpkbmaaGreat
