import Derived.Test.YtobgcaemnpkbmaaGreatDoorC22
namespace Go.Proofs.YtobgcaemnpkbmaaGreatDoor
set_option maxRecDepth 100000
set_option maxHeartbeats 8000000
open Go.RowKit List
theorem Ql8 {T:Int->NI} {nb:Int->Nat} {S:Int->Prop} {L:Nat->Qd} (d:∀ i,(T i).kids.length<=1000/\(T i).ats.length<=5):∀ f,f<=1000->Qgo T nb S (QaE T L f) L f| 0,_=>λ_ _ _ _ _ _ _ _ _ _ _ _ _ _ _ _ _ _ _ _ M N=>by omega| f+1,hf1=>λt WB pv P last w h l G u id x o g z b v s n c j H p A r k O B D=>by refine QpK t WB pv P last w h l (by omega) nb u id x o g b v n c (λi=>L (s+i)) j p A r k (Qcb (QaE T L f) T L id x s n last) ?_;intro E w1 q m I C J a y K F;have R:=QgQ id x (L (s+0));have U:=QeK id (Q4 x.ats) (L (s+0)).nm (L (s+0)).an x.ats.length;have V:=Qgu id (Q4 x.ats) (Zq x.ats) x.ats.length (L (s+0)).nm (L (s+0)).vl (L (s+0)).an;have W:=(k 0 j).an;have X:=g.few;refine Qm2 T nb S (QaE T L f) L f (Ql8 d f (by omega)) (Qek d f) d t WB E _ last w1 J (Nat.le_trans l a.touch.size) (G.tells a) u id x (o.tells a) g z b v s n c j H p (by omega) (r.tells a) k ?_ B D C q m I y K F;simp only [QaG,length_append];omega
def Qc (R:List RN) (i:Int):NI:=match R.find? (λn=>n.id==i) with
 | some n=>⟨n.key,n.tag,n.text,n.ats,Qe R i⟩
 | none=>⟨0,⟨#[]⟩,⟨#[]⟩,[],[]⟩
theorem JT {R:List RN} (b:Qp R) {n:RN} (h:n ∈ R):Qc R n.id=⟨n.key,n.tag,n.text,n.ats,Qe R n.id⟩:=by
 unfold Qc;have:R.find? (λm=>m.id==n.id)=some n:=by obtain ⟨k,a,e⟩:=getElem_of_mem h;rw [find?_eq_some_iff_getElem];refine ⟨by simp,k,a,e,λj d=>?_⟩;simp only [Bool.not_eq_true',beq_eq_false_iff_ne,ne_eq];intro c;have:=b.inj j k (by omega) a (by rw [c,e]);omega
 rw [this]
theorem QgW {R:List RN} (b:R.length<=800) (a:∀ n,n ∈ R->n.ats.length<=5) (i:Int):(Qc R i).kids.length<=1000/\(Qc R i).ats.length<=5:=by
 unfold Qc;split
 ·next n h =>
  refine ⟨?_,a n (mem_of_find?_eq_some h)⟩;show (Qe R i).length<=1000;unfold Qe;rw [length_map];have:=length_filter_le (λn:RN=>n.par==i) R;omega
 exact ⟨Nat.zero_le _,Nat.zero_le _⟩
def Qe5 (R:List RN):Prop:=∀ n,n ∈ R->Qg n.key
theorem Qn0 {l:Qo} {nb:Int->Nat} {x:Nat} {y:Option Nat} {w:World} {q:Nat} {R:List RN} {last:Int} (h:Qi l nb x y w q R last) (o:Qp R) (z:ZA R) (A:Qe5 R) {WB:Nat} (v:l WB=none):Qbu WB Xv w nb (λi=>∃ n,n ∈ R/\n.id=i) (Qc R) where
 node:=by
  rintro i ⟨n,d,rfl⟩
  obtain ⟨B,C,a⟩:=h.node n d
  have f:∀ b j,l b=some (n.id,j)->Zh WB Xv w b:=λb j e=>⟨h.low b (by rw [e];rfl),(λp=>by rw [p,v] at e;cases e),(λp=>by cases p)⟩
  rw [JT o d]
  obtain ⟨ao,ac,rfl⟩:=Qz a.arow
  obtain ⟨D,E,rfl⟩:=Qz a.krow
  refine ⟨f _ 0 a.role,Qf a.blk 0 _ rfl,Qf a.blk 1 _ rfl,Qf a.blk 2 _ rfl,Qf a.blk 3 _ rfl,⟨ao,ac,Qf a.blk 4 _ rfl,⟨λj c=>?_,λN b S e=>?_⟩⟩,⟨D,E,Qf a.blk 6 _ rfl,λj c=>?_⟩⟩
  ·rcases a.arow.2 with ⟨e,O⟩|⟨g,cap,M,e,hb,s,_⟩
   ·simp only at c;omega
   ·simp at e
    obtain ⟨rfl,rfl⟩:=e
    have r:(Q4 n.ats j,Zq n.ats j) ∈ n.ats:=by
     simp only at c
     simp only [Q4,Zq]
     rw [Xg c]
     exact getElem_mem _
    have t:=a.size _ r
    have F:=a.arow.cellAt (j*2) (by simp only at c;omega)
    have G:=a.arow.cellAt (j*2+1) (by simp only at c;omega)
    have H:=QfB n.ats j 0 c (by omega)
    have I:=QfB n.ats j 1 c (by omega)
    refine ⟨g,0,rfl,(Array.getElem?_eq_some_iff.1 s).1,?_,?_,t.1,t.2⟩
    ·rw [Nat.zero_add,F];exact H
    ·rw [Nat.zero_add,G];exact I
  ·refine f b 1 (a.arole b ?_)
   rw [e];rfl
  ·obtain ⟨g,P,e,s,J⟩:=Qd0 a.krow (j:=j) c
   refine ⟨g,e,f g 2 (a.krole g (by rw [e];rfl)),?_⟩
   rw [J]
   simp only [Z5,getElem_map]
   rw [Xg c]
   rfl
 kids:=by
  rintro i ⟨n,d,rfl⟩ k u
  rw [JT o d] at u
  obtain ⟨m,K,_,L⟩:=Qaz.1 u
  exact ⟨m,K,L⟩
 ok:=by
  rintro i ⟨n,d,rfl⟩
  obtain ⟨B,C,a⟩:=h.node n d
  rw [JT o d]
  refine ⟨a.few,λj c=>?_,a.tag,A n d,?_⟩
  ·have r:(Q4 n.ats j,Zq n.ats j) ∈ n.ats:=by
    simp only at c
    simp only [Q4,Zq]
    rw [Xg c]
    exact getElem_mem _
   have:=Qdu (z n d _ r).1
   simp only at this ⊢
   omega
  ·have:=h.few
   show (Qe R n.id).length<=1000
   unfold Qe
   rw [length_map]
   have:=length_filter_le (λm:RN=>m.par==n.id) R
   omega
theorem QqQ {w:World} {b f n:Nat} {L:Nat->Qd} (h:QbB w b f n L) {WB:Nat} (hb:b≠WB) (j:∀ i,i<n->0<(L i).an->∀ g p,(L i).ao=some (Xa g p)->g≠WB):QaW WB Xv w b f n (λi=>L (0+i)):=by
 have e:(λi=>L (0+i))=L:=funext λi=>by rw [Nat.zero_add]
 rw [e];refine ⟨⟨h.lt,hb,λe=>by cases e⟩,h.node,λi a=>⟨(h.node i a).ok.at',λc g p e=>⟨?_,j i a c g p e,λe=>by cases e⟩⟩⟩;obtain ⟨l,m,d,k,_⟩:=(h.node i a).ok.at' 0 c;rw [e] at d;cases d;exact k
theorem QoR {L:Nat->Qd} {n:Nat} (h:∀ i,i<n->QQ L i=true) (d:∀ i,i<n->Qg (L i).k):∀ i,i<n->(L (0+i)).Small:=λi a=>by rw [Nat.zero_add];have b:=Qa0 (Qat (h i a));have g:=QgE (Qat (h i a));have l:=Qki (h i a);refine ⟨b.1,λj f=>?_,by omega,by omega,d i a,by omega⟩;have c:=QdI (b.2 j f).1;have m:=Qdu c.1;have o:=Qfo c.2.1;exact ⟨by omega,by omega⟩
def QaS (R:List RN) (L:Nat->Qd) (n:Nat):Int × Int :=
 if (J8 (QQ L) n).1=0 then
  if ((L 0).t.toList==(Qc R 1).tag.toList)&&((L 0).k==(Qc R 1).key) then
   if 800<R.length+n then (1,0) else (0,0)
  else (3,0)
 else J8 (QQ L) n
def Qa4 (R:List RN) (last:Int) (L:Nat->Qd) (n:Nat):List Qn:=(QaE (Qc R) L n 1 (Qc R 1) 0 n last).1
def QdM (w:World) (P:List Qn) (b a:Int) (e:Ending) (w':World):Prop:=∃ v,e=.returned (.tuple #[v,Xi b,Xi a])/\w'.ownsRow w.heap.size 60 8 v P.length (Qbh P)/\Xb w w'
theorem Qni (q:Nat) (ao:Option Addr) (n c:Nat) (w:World) (a b:Int) (g:(a !=0)=true) (f:Hid (Xl 59 #[.slice ao n c] w λe w'=>e=.returned (.tuple #[Xi a,Xi b])/\Xb w w')) : Xl 35 #[Xp q,.slice ao n c] w (QdM w [] a b):=by go_enter Tryz.func35,Tryz.ntmps35;go_wp2_with (first|(go_at_call 59;refine (Qb f).mono ?_;rintro e w1 ⟨rfl,d⟩));refine bodyPost_ret (results_tmp3 rfl _ _ _) rfl ?_;exact ⟨_,rfl,World.ownsRow_nil _ _ _ _,d⟩
theorem Qur (q f:Nat) (b d n c:Nat) (w:World) (u:0<n) (tg g:ByteArray) (m l:Int) (h:Xc w b (d+1) (.string tg)) (o:Xc w b (d+2) (Xi m)) (q0:Xc w q 0 (Xp f)) (i:Xc w f 1 (Xi l)) (p:Xc w f 2 (.string g)) (t:(tg.toList==g.toList)=false) (r:Hid (Xl 59 #[.slice (some (Xa b d)) n c] w λe w'=>e=.returned (.tuple #[Xi 0,Xi 0])/\Xb w w')) : Xl 35 #[Xp q,.slice (some (Xa b d)) n c] w (QdM w [] 3 0):=by have j:=World.block_lt_of_cell? _ _ h;have s:=World.block_lt_of_cell? _ _ q0;have k:=World.block_lt_of_cell? _ _ i;go_enter Tryz.func35,Tryz.ntmps35;go_wp2_with (first|(go_at_call 59;refine (Qb r).mono ?_;rintro e w1 ⟨rfl,a⟩;have v:=(Xh a b (d+1) j).trans h;have x:=(Xh a b (d+2) j).trans o;have y:=(Xh a q 0 s).trans q0;have z:=(Xh a f 1 k).trans i;have A:=(Xh a f 2 k).trans p));go_big_quiet (fail);go_wp2;refine bodyPost_ret (results_tmp3 rfl _ _ _) rfl ?_;exact ⟨_,rfl,World.ownsRow_nil _ _ _ _,QL a _⟩
theorem Qnx (q f:Nat) (b d n c:Nat) (w:World) (v:0<n) (tg g:ByteArray) (i h:Int) (j:Xc w b (d+1) (.string tg)) (o:Xc w b (d+2) (Xi i)) (q0:Xc w q 0 (Xp f)) (k:Xc w f 1 (Xi h)) (p:Xc w f 2 (.string g)) (t:(tg.toList==g.toList)=true) (u:(i==h)=false) (r:Hid (Xl 59 #[.slice (some (Xa b d)) n c] w λe w'=>e=.returned (.tuple #[Xi 0,Xi 0])/\Xb w w')) : Xl 35 #[Xp q,.slice (some (Xa b d)) n c] w (QdM w [] 3 0):=by have l:=World.block_lt_of_cell? _ _ j;have s:=World.block_lt_of_cell? _ _ q0;have m:=World.block_lt_of_cell? _ _ k;go_enter Tryz.func35,Tryz.ntmps35;go_wp2_with (first|(go_at_call 59;refine (Qb r).mono ?_;rintro e w1 ⟨rfl,a⟩;have x:=(Xh a b (d+1) l).trans j;have y:=(Xh a b (d+2) l).trans o;have z:=(Xh a q 0 s).trans q0;have A:=(Xh a f 1 m).trans k;have B:=(Xh a f 2 m).trans p));go_big_quiet (fail);go_wp2;refine bodyPost_ret (results_tmp3 rfl _ _ _) rfl ?_;exact ⟨_,rfl,World.ownsRow_nil _ _ _ _,QL a _⟩
theorem Qoe (q f l:Nat) (b d n c:Nat) (w:World) (H:0<n) (tg j:ByteArray) (m k:Int) (o:Xc w b (d+1) (.string tg)) (v:Xc w b (d+2) (Xi m)) (q0:Xc w q 0 (Xp f)) (p:Xc w f 1 (Xi k)) (x:Xc w f 2 (.string j)) (D:(tg.toList==j.toList)=true) (h:Nat) (E:n<=400) (y:Xc w q 1 (.map (some l))) (i:∀ w',Xb w w'->∀ z,(Builtin.len_ #[139] z #[.map (some l)]).run Tryz.prog w'=.ok (Xi h) w') (u:m=k) (C:800<h+n) (A:Hid (Xl 59 #[.slice (some (Xa b d)) n c] w λe w'=>e=.returned (.tuple #[Xi 0,Xi 0])/\Xb w w')) : Xl 35 #[Xp q,.slice (some (Xa b d)) n c] w (QdM w [] 1 0):=by
 subst u;have B:=Qa i;clear i;have r:=World.block_lt_of_cell? _ _ o;have s:=World.block_lt_of_cell? _ _ q0;have t:=World.block_lt_of_cell? _ _ p;go_enter Tryz.func35,Tryz.ntmps35;go_wp2_with (first|(go_at_call 59;refine (Qb A).mono ?_;rintro e w1 ⟨rfl,a⟩;have I:=(Xh a b (d+1) r).trans o;have J:=(Xh a b (d+2) r).trans v;have K:=(Xh a q 0 s).trans q0;have L:=(Xh a f 1 t).trans p;have M:=(Xh a f 2 t).trans x));go_big_quiet (fail);have g:=QL a nq;generalize w1.drewN nq=w2 at g ⊢;have N:=(Xh g q 1 s).trans y;have F:=B.out _ g;have G:(800:Int)-n<h:=by omega
 go_wp2;refine bodyPost_ret (results_tmp3 rfl _ _ _) rfl ?_;exact ⟨_,rfl,World.ownsRow_nil _ _ _ _,g⟩
theorem QsM (q i A:Nat) (b d n c:Nat) (w:World) (ad:0<n) (tg v:ByteArray) (B x:Int) (C:Xc w b (d+1) (.string tg)) (N:Xc w b (d+2) (Xi B)) (q0:Xc w q 0 (Xp i)) (D:Xc w i 1 (Xi x)) (O:Xc w i 2 (.string v)) (a7:(tg.toList==v.toList)=true) (t:Nat) (a8:n<=400) (P:Xc w q 1 (.map (some A))) (u:∀ w',Xb w w'->∀ R,(Builtin.len_ #[139] R #[.map (some A)]).run Tryz.prog w'=.ok (Xi t) w') (G:B=x) (a6:t+n<=800) (last:Int) (S:Xc w q 2 (Xi last)) (r:List Qn × Int) (T:Hid (Xl 59 #[.slice (some (Xa b d)) n c] w λe w'=>e=.returned (.tuple #[Xi 0,Xi 0])/\Xb w w')) (U:Hid (∀ w2 m,Xb w w2->Xb w2 m->m.heap[w2.heap.size]?=some (.cells #[Xv,Xi last] 151 (0,0))->Xl 62 #[Xp w2.heap.size,Xp i,.slice (some (Xa b d)) n c] m (Told w2.heap.size w2.heap.size Xv [] m r))) : Xl 35 #[Xp q,.slice (some (Xa b d)) n c] w (QdM w r.1 0 0):=by
 subst G;have V:=Qa u;clear u;have E:=World.block_lt_of_cell? _ _ C;have j:=World.block_lt_of_cell? _ _ q0;have F:=World.block_lt_of_cell? _ _ D;go_enter Tryz.func35,Tryz.ntmps35;go_wp2_with (first|(go_at_call 59;refine (Qb T).mono ?_;rintro e w1 ⟨rfl,f⟩;have W:=(Xh f b (d+1) E).trans C;have X:=(Xh f b (d+2) E).trans N;have Y:=(Xh f q 0 j).trans q0;have a0:=(Xh f i 1 F).trans D;have a1:=(Xh f i 2 F).trans O));go_big_quiet (fail);have a:=QL f nq;generalize w1.drewN nq=w2 at a ⊢;have ae:=(Xh a q 1 j).trans P;have a9:=V.out _ a;have aa:¬ (800:Int)-n<t:=by omega
 have af:=(Xh a q 2 j).trans S;have ag:=(Xh a q 0 j).trans q0;have ab:q<w2.heap.size:=Nat.lt_of_lt_of_le j a.size;have p:Xb w2 (w2.alloc (.cells #[Xv,Xi last] 151)):=Xd;have H:=Qa (U.out w2 _ a p (by show (w2.heap.push _)[w2.heap.size]?=_;simp));have y:=Qa p;have s:=Qa a;clear Y a0 a1 W X p;go_wp2_with (first|(go_at_call 62;refine (Qb H).mono ?_;rintro e a2 ⟨rfl,ac,l,z⟩;have ah:=l.c0;have ai:=l.lt;have I:=Qa l;have J:=Qa z;clear l z));refine bodyPost_ret (results_tmp3 rfl _ _ _) rfl ?_;have K:w2.heap.size<=(w2.alloc (.cells #[Xv,Xi last] 151)).heap.size:=y.out.size;have L:Xb w2 a2:=by
  have k:=J.out.touch;refine y.out.trans ⟨k.os,k.tape,k.output,k.size,λb hb=>k.block b (Nat.lt_of_lt_of_le hb K) ?_⟩;rintro (e|e)
  ·omega
  cases e
 refine ⟨_,rfl,?_,s.out.trans (L.mono s.out.size)⟩;have o:=I.out.row;rw [nil_append] at o;refine ⟨o.1,o.2.imp (λh=>h) λ⟨g,cap,M,a3,a4,a5⟩=>⟨g,cap,M,a3,Nat.le_trans s.out.size a4,a5⟩⟩
theorem Qkm {f:Nat->Bool} {n:Nat} (h:(J8 f n).1=0):J8 f n=(0,0)/\0<n/\n<=400/\∀ i,i<n->f i=true:=by
 unfold J8 at h ⊢;by_cases a:n<1 \/ 400<n
 ·rw [if_pos a] at h;cases h
 rw [if_neg a] at h ⊢;unfold QcM at h ⊢;cases b:(List.range n).find? (λi=>!f i) with| some i=>rw [b] at h;cases h| none =>refine ⟨rfl,by omega,by omega,λi c=>?_⟩;have:=find?_eq_none.1 b i (mem_range.2 c);simpa using this
theorem QoW {d:Qo} {nb:Int->Nat} {f:Nat} {w:World} {q:Nat} {R:List RN} {last:Int} (h:Qi d nb f (some (nb 1)) w q R last) (a:QE R last) : w.cell? (Xa q 0)=some (Xp (nb 1))/\w.cell? (Xa (nb 1) 1)=some (Xi (Qc R 1).key)/\w.cell? (Xa (nb 1) 2)=some (.string (Qc R 1).tag):=by obtain ⟨n,c,g,_⟩:=a.root;obtain ⟨j,k,i⟩:=h.node n c;have b:=JT a.ids c;have hb:=i.blk;rw [g] at b hb;rw [b];exact ⟨Qf h.blk 0 _ rfl,Qf hb 1 _ rfl,Qf hb 2 _ rfl⟩
theorem QiR (G:Qo) (nb:Int->Nat) (j:Nat) (w:World) (q:Nat) (R:List RN) (last:Int) (h:Qi G nb j (some (nb 1)) w q R last) (A:QE R last) (a1:ZA R) (a2:Qe5 R) (ad:last+400<=4611686018427387904) (ao:Option Addr) (n c:Nat) (L:Nat->Qd) (a3:n<=maxLen) (a4:n<=c) (P:QaU w ao n L) (a5:∀ i,i<n->Qg (L i).k) : Xl 35 #[Xp q,.slice ao n c] w (QdM w (if (QaS R L n).1=0 then Qa4 R last L n else []) (QaS R L n).1 (QaS R L n).2):=by
 have l:=QgK ao n c L w a3 P;by_cases u:(J8 (QQ L) n).1=0
 ·obtain ⟨a6,f,M,U⟩:=Qkm u;rw [a6] at l;obtain ⟨b,z,rfl,B⟩:=P f;obtain ⟨q0,C,D⟩:=QoW h A;have a:=B.node 0 f;rw [Nat.zero_mul,Nat.add_zero] at a;have o:QaS R L n=if ((L 0).t.toList==(Qc R 1).tag.toList)&&((L 0).k==(Qc R 1).key) then if 800<R.length+n then (1,0) else (0,0) else (3,0):=by unfold QaS;rw [if_pos u]
  cases d:((L 0).t.toList==(Qc R 1).tag.toList) with
  | false =>rw [o,d];exact Qur q (nb 1) b z n c w f _ _ _ _ a.c1 a.c2 q0 C D d (Qa l)
  | true =>
   cases x:((L 0).k==(Qc R 1).key) with
   | false =>rw [o,d,x];exact Qnx q (nb 1) b z n c w f _ _ _ _ a.c1 a.c2 q0 C D d x (Qa l)
   | true =>
    have N:(L 0).k=(Qc R 1).key:=by simpa using x
    have S:=Qf h.blk 1 (.map (some j)) rfl;have a7:=Qf h.blk 2 (Xi last) rfl;have J:∀ w',Xb w w'->∀ H,(Builtin.len_ #[139] H #[.map (some j)]).run Tryz.prog w'=.ok (Xi R.length) w':=λw' hb H=>(h.map.heap (hb.block j h.map.lt)).len H;by_cases y:800<R.length+n
    ·rw [o,d,x,if_pos y];exact Qoe q (nb 1) j b z n c w f _ _ _ _ a.c1 a.c2 q0 C D d R.length M S J N y (Qa l)
    rw [o,d,x,if_neg y];refine QsM q (nb 1) j b z n c w f _ _ _ _ a.c1 a.c2 q0 C D d R.length M S J N (by omega) last a7 (QaE (Qc R) L n 1 (Qc R 1) 0 n last) (Qa l) (Qa λw2 I s W r=>?_);have O:Xb w I:=s.trans (W.mono s.size);have V:=h.below O;have X:G w2.heap.size=none:=by cases e:G w2.heap.size with| none=>rfl| some v=>have:=h.low w2.heap.size (by rw [e];rfl);have:=s.size;omega
    have K:w2.heap.size<I.heap.size:=QN r;obtain ⟨a8,Y,a9,_⟩:=A.root;have E:=Qn0 V A.ids a1 a2 X;have F:∃ m,m ∈ R/\m.id=1:=⟨a8,Y,a9⟩;have a0:=B.below O;refine Ql8 (L:=L) (QgW h.few λm y=>?_) n (by omega) w2.heap.size w2.heap.size Xv [] last I ⟨Qf r 0 _ rfl,Jp r 0,Qf r 1 _ rfl,Jp r 1,World.ownsRow_nil _ _ _ _,(λb e=>by cases e),K⟩ (Nat.le_of_lt K) E (nb 1) 1 (Qc R 1) (E.node 1 F) (E.ok 1 F) (E.kids 1 F) b z 0 n c f (Nat.le_refl _) a4 (by omega) (QqQ a0 ?_ ?_) (QoR U a5) ?_ ?_ ?_
    ·obtain ⟨af,ag,aa⟩:=h.node m y;exact aa.few
    ·have:=B.lt;have:=s.size;omega
    ·intro i ab ac g p e;obtain ⟨ah,ai,T,ae,_⟩:=(B.node i ab).ok.at' 0 ac;rw [e] at T;cases T;have:=s.size;omega
    ·simp;omega
    ·have:=A.last_pos;omega
    omega
 have o:QaS R L n=J8 (QQ L) n:=by unfold QaS;rw [if_neg u]
 rw [o,if_neg u];exact Qni q ao n c w _ _ (by simpa using u) (Qa l)
theorem Qot (b q:Nat) (w:World) (ao:Option Addr) (n c:Nat) (d:Value->Int->Int->World->Prop) (h:Xc w b 0 (Xp q)) (f:Hid (Xl 35 #[Xp q,.slice ao n c] w λe w'=>∃ v x a,e=.returned (.tuple #[v,Xi x,Xi a])/\d v x a w')) : Xl 18 #[Xp b,.slice ao n c] w λe w'=>∃ v x a,e=.returned (.tuple #[v,Xi x,Xi a])/\d v x a w':=by go_enter Tryz.func18,Tryz.ntmps18;go_wp2_with (first|(go_at_call 35;refine (Qb f).mono ?_;rintro e w2 ⟨v,x,a,rfl,g⟩));refine bodyPost_ret (results_tmp3 rfl _ _ _) rfl ?_;exact ⟨v,x,a,rfl,g⟩
end Go.Proofs.YtobgcaemnpkbmaaGreatDoor
