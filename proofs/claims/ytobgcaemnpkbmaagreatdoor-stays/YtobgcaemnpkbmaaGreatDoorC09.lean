import Derived.Test.YtobgcaemnpkbmaaGreatDoorC08
namespace Go.Proofs.YtobgcaemnpkbmaaGreatDoor
set_option maxRecDepth 100000
set_option maxHeartbeats 8000000
open Go.RowKit List
theorem QhK (x:Qo) (nb:Int->Nat) (E:Nat) (F:Option Nat) (w:World) (q:Nat) (R:List RN) (last:Int) (h:Qi x nb E F w q R last) (r:Qp R) (y:∃ rk,Up R rk) (k:Nat) (a:k<R.length) : Xl 142 #[Xp (nb R[k].id)] w λe w'=>e=.returned (.tuple #[])/\∃ ρ',QV x ρ' w w'/\Qi ρ' nb E F w' q (QO R k) last:=by
 obtain ⟨rk,y⟩:=y;obtain ⟨ai,aj,f⟩:=h.node _ (getElem_mem a);by_cases s:R[k].par=0
 ·have N:w.cell? (Xa (nb R[k].id) 5)=some (.pointer none):=by have:=Qf f.blk 5 (Zo nb R[k].par) rfl;unfold Zo at this;rwa [if_pos s] at this
  have G:Hid (∃ ρ',QV x ρ' w w/\Qi ρ' nb E F w q (QO R k) last):=Qa ⟨x,⟨Qx.of_below (Below.refl _ _),λ_ _=>rfl,λ_ h=>.inl h⟩,by rw [Qom a s];exact h⟩;clear h f;go_enter Tryz.func142,Tryz.ntmps142;go_wp2;refine bodyPost_ret (results_none rfl _ _ _) rfl ?_;exact ⟨rfl,G.out⟩
 obtain ⟨m,d,n⟩:=(y.par _ (getElem_mem a)).resolve_left s;obtain ⟨t,a2,rfl⟩:=getElem_of_mem d;obtain ⟨ar,a3,c⟩:=h.node _ d;have A:R[t].id≠R[k].id:=λe=>by have:=y.rank _ (getElem_mem a) s;rw [<- n,e] at this;omega
 have ak:(0:Int)<R[t].id:=r.pos _ d;have al:(0:Int)<R[k].id:=r.pos _ (getElem_mem a);have ag:=QdU R R[t].id;have ah:=h.few;obtain ⟨i,K,H,I,O⟩:=Qno r a (q:=R[t].id) (by omega) n.symm;obtain ⟨g,l,rfl⟩:∃ g l,a3=Xe g (Qe R R[t].id).length l:=by
  rcases c.krow.2 with ⟨_,e⟩|⟨g,cap,ao,e,_⟩
  ·omega
  exact ⟨g,cap,e⟩
 have a4:=Qf c.blk 6 (Xe g (Qe R R[t].id).length l) rfl;have a5:=Jp c.blk 6;have N:w.cell? (Xa (nb R[k].id) 5)=some (Xp (nb R[t].id)):=by have:=Qf f.blk 5 (Zo nb R[k].par) rfl;unfold Zo at this;rwa [if_neg s,<- n] at this
 have a6:=Jp f.blk 5;have U:=c.lt;have V:=f.lt;have ap:nb R[t].id≠nb R[k].id:=λe=>A (c.nb_inj f e);have W:g≠nb R[t].id:=λe=>by have:=c.krole g rfl;rw [e,c.role] at this;have:=(Prod.mk.inj (Option.some.inj this)).2;omega
 have X:g≠nb R[k].id:=λe=>by have:=c.krole g rfl;rw [e,f.role] at this;have:=(Prod.mk.inj (Option.some.inj this)).2;omega
 have P:Hid (Xl 174 #[Xe g (Qe R R[t].id).length l,Xi i,Xi ((i:Int)+1)] w λe w'=>e=.returned (Xe g ((Qe R R[t].id).length-1) l) /\ w'.ownsRow 0 140 1 (Xe g ((Qe R R[t].id).length-1) l) ((Qe R R[t].id).length-1) (Z5 nb ((Qe R R[t].id).take i++(Qe R R[t].id).drop (i+1)))/\w.grownBy w' (some g)/\w'.heap.size=w.heap.size):=by have:=QrZ g (Qe R R[t].id).length l i (i+1) (Z5 nb (Qe R R[t].id)) w c.krow K rfl (QiF _ _);rw [Nat.mul_one,Nat.mul_one] at this;unfold Z5 at this ⊢;rw [map_append,map_take,map_drop];exact Qa this
 have S:Hid (Xl 95 #[Xe g (Qe R R[t].id).length l,Xp (nb R[k].id)] w λe w'=>e=.returned (Xi i)/\w=w'):=by
  refine Qa ((QiU g (Qe R R[t].id).length l ((Qe R R[t].id).map nb) (nb R[k].id) w (by simp) (by omega) i K (by rw [getElem?_map,H];rfl) (λj a7 e=>?_) (λj af o=>?_) (λaf o=>?_)).mono λ_ _ h=>⟨h.1,h.2.symm⟩)
  ·rw [getElem?_map] at e;cases p:(Qe R R[t].id)[j]? with| none=>rw [p] at e;cases e| some z =>rw [p] at e;obtain ⟨m,d,_,L⟩:=Qaz.1 (mem_of_getElem? p);obtain ⟨a8,a9,B⟩:=h.node m d;have e:=Option.some.inj e;rw [<- L] at e;exact I j a7 (by rw [p,<- L,B.nb_inj f e])
  ·rw [c.krow.cellAt j (by have:=(List.getElem?_eq_some_iff.1 o).1;simp at this;omega)];unfold Z5;rw [getElem?_map] at o ⊢;cases p:(Qe R R[t].id)[j]? with| none=>rw [p] at o;cases o| some z=>rw [p] at o;cases o;rfl
  obtain ⟨z,aa,rfl⟩:=mem_map.1 o;obtain ⟨m,d,_,rfl⟩:=Qaz.1 aa;obtain ⟨a8,a9,B⟩:=h.node m d;exact B.plain
 have G:=Qa h;have ab:=Qa c;have ac:=Qa O;have aq:(i:Int)+1<=800:=by omega
 have Y:=Qa n;clear h c f O H I n;go_enter Tryz.func142,Tryz.ntmps142;go_wp2_with (first|(go_at_call 95;refine (Qb S).mono ?_;rintro e w1 ⟨rfl,rfl⟩)|(go_at_call 174;refine (Qb P).mono ?_;rintro e w2 ⟨rfl,J,u,M⟩;have C:w2.heap[nb R[t].id]?=w.heap[nb R[t].id]?:=u.block _ U (λe=>W (Option.some.inj e).symm);have D:w2.heap[nb R[k].id]?=w.heap[nb R[k].id]?:=u.block _ V (λe=>X (Option.some.inj e).symm);have au:=(Xk (nb R[t].id) 6 C).trans a4;have av:=(Xm (nb R[t].id) 6 C).trans a5;have aw:=(Xk (nb R[k].id) 5 D).trans N;have ax:=(Xm (nb R[k].id) 5 D).trans a6;have T:=Qa J;have v:=Qa u;have a0:=Qa M;clear J u M C D));go_end0;have n:=Y.out;refine ⟨rfl,?_⟩;have a1:((Qe R R[t].id).take i++(Qe R R[t].id).drop (i+1)).length=(Qe R R[t].id).length-1:=by simp;omega
 refine Qi.moved (np:=0) G.out r a a2 A ab.out (Qfp r a) (Qmx a) (Qh9 a) (QcW a) (λm d=>Qgw a d) (QkB a (by omega) (λe=>by rw [<- n] at e;exact A e)) (λm d _ ad=>QkB a (by have:=r.pos m d;omega) (λe=>by rw [<- n] at e;exact ad e.symm)) ac.out (Nat.le_of_eq a0.out.symm) ⟨v.out.os,v.out.tape,v.out.output⟩ (λb hb ae=>v.out.block b hb ae) (by rw [a1];exact T.out) (λb e=>.inl e)
theorem QqN {a:Qo} {nb:Int->Nat} {w:World} {R:List RN} {n:RN} {b c:Value} (h:Jl a nb w R n b c) : Xl 140 #[Xp (nb n.id)] w λe w'=>e=.returned (.bool (!n.tag.toList.isEmpty))/\w'=w:=by have d:=Qf h.blk 2 (.string n.tag) rfl;clear h;cases f:n.tag.toList.isEmpty with| true =>go_enter Tryz.func140,Tryz.ntmps140;go_wp2;go_ret;exact ⟨by simp_all,rfl⟩| false =>go_enter Tryz.func140,Tryz.ntmps140;go_wp2;go_ret;exact ⟨by simp_all,rfl⟩
def Qd2 (b:Qo) (rk:Int->Nat) (v:Value):Nat:=match v with|.pointer (some a)=>(match b a.block with|some (i,_)=>rk i+1|none=>0)|_=>0
theorem QjA {a:Qo} {rk:Int->Nat} {b:Nat} {i:Int} {j:Nat} (h:a b=some (i,j)):Qd2 a rk (Xp b)=rk i+1:=by unfold Qd2;simp [h]
theorem Qpl (a:Qo) (rk:Int->Nat):Qd2 a rk (.pointer none)=0:=rfl
theorem Qto (o:Qo) (nb:Int->Nat) (T:Nat) (U:Option Nat) (w:World) (q:Nat) (R:List RN) (last:Int) (h:Qi o nb T U w q R last) (D:Qp R) (rk:Int->Nat) (E:Up R rk) (i j:Nat) (F:i<R.length) (V:j<R.length) : Xl 141 #[Xp (nb R[i].id),Xp (nb R[j].id)] w λe w'=>e=.returned (.bool (ZM R (rk R[i].id+1) R[i].id R[j].id))/\w'=w:=by
 obtain ⟨a1,a2,r⟩:=h.node _ (getElem_mem V);have K:=r.plain;have G:=Qa h;have H:=Qa E;have y:=Qa D;have L:=Qa r;clear h E D r;go_enter Tryz.func141,Tryz.ntmps141;go_wp2;go_loopw [0] (λv wr=>wr=w/\∃ (x:Int) (m:Nat),v=Zo nb x/\Hid (x=0 \/ rk x<m)/\Hid (x=0 \/ ∃ k,∃ c:k<R.length,R[k].id=x)/\Hid (ZM R m x R[j].id=ZM R (rk R[i].id+1) R[i].id R[j].id)) (λv _=>Qd2 o rk v)
 ·have:=y.out.pos _ (getElem_mem F);exact ⟨rfl,R[i].id,rk R[i].id+1,by unfold Zo;rw [if_neg (by omega)],Qa (.inr (Nat.lt_succ_self _)),Qa (.inr ⟨i,F,rfl⟩),rfl⟩
 case round =>
  obtain ⟨rfl,x,m,rfl,I,W,b⟩:=hrel;by_cases d:x=0
  ·subst d;have g:Hid (ZM R (rk R[i].id+1) R[i].id R[j].id=false):=by rw [<- b.out];exact Qn1 R m _
   have a3:Zo nb 0=.pointer none:=rfl;clear b;go_wp2;go_ret;exact ⟨ZD g.out.symm,rfl⟩
  have I:=I.out.resolve_left d;obtain ⟨m,rfl⟩:∃ X,m=X+1:=⟨m-1,by omega⟩;obtain ⟨k,c,s⟩:=W.out.resolve_left d;obtain ⟨a4,a5,p⟩:=G.out.node _ (getElem_mem c);have t:Zo nb x=Xp (nb R[k].id):=by unfold Zo;rw [if_neg d,s]
  have A:=Qci p.plain K;have Y:=Qf p.blk 5 (Zo nb R[k].par) rfl;have J:=Qa p;have n:=Qa s;clear p s;rw [t];by_cases a:R[k].id=R[j].id
  ·have g:Hid (ZM R (rk R[i].id+1) R[i].id R[j].id=true):=by rw [<- b.out,ZM,if_neg d,if_pos (by rw [<- n.out];exact a)];exact rfl
   rw [a,beq_self_eq_true] at A;rw [a] at Y t ⊢;clear b a;go_wp2;go_ret;exact ⟨ZD g.out.symm,rfl⟩
  have B:(nb R[k].id==nb R[j].id)=false:=by rw [beq_eq_false_iff_ne];exact λe=>a (J.out.nb_inj L.out e)
  rw [B] at A;have g:Hid (ZM R m R[k].par R[j].id=ZM R (rk R[i].id+1) R[i].id R[j].id):=by
   have M:Qdl R x=R[k].par:=by unfold Qdl;rw [<- n.out,QiC y.out c];exact QbA c
   rw [<- b.out,ZM,if_neg d,if_neg (λe=>a (by rw [n.out];exact e)),M];exact rfl
  have z:Hid (R[k].par=0 \/ ∃ l,∃ f:l<R.length,R[l].id=R[k].par):=by
   rcases H.out.par R[k] (getElem_mem c) with e|⟨a9,a0,e⟩
   ·exact Qa (.inl e)
   obtain ⟨l,f,rfl⟩:=getElem_of_mem a0;exact Qa (.inr ⟨l,f,e⟩)
  have u:R[k].par=0 \/ rk R[k].par<rk R[k].id:=by
   by_cases e:R[k].par=0
   ·exact .inl e
   exact .inr (H.out.rank R[k] (getElem_mem c) e)
  have N:Hid (R[k].par=0 \/ rk R[k].par<m):=by
   rcases u with e|e
   ·exact Qa (.inl e)
   have:=n.out;rw [this] at e;exact Qa (.inr (by omega))
  have O:Hid (Qd2 o rk (Zo nb R[k].par)<Qd2 o rk (Xp (nb R[k].id))):=by
   rw [QjA J.out.role];rcases z.out with e|⟨l,f,e⟩
   ·unfold Zo;rw [if_pos e,Qpl];exact Qa (Nat.succ_pos _)
   obtain ⟨a6,a7,P⟩:=G.out.node _ (getElem_mem f);have a8:=y.out.pos _ (getElem_mem f);unfold Zo;rw [if_neg (by omega),<- e,QjA P.role,e];exact Qa (by rcases u with h|h;omega;omega)
  clear b u B a;generalize C:Zo nb R[k].par=pv at *;have S:=Qa C;clear C t;go_wp2;go_roundw;·exact ⟨trivial,R[k].par,m,S.out.symm,N,z,g⟩
  exact O.out
theorem Ql {b:Nat} {w a:World} (h:Below b w a) (n:Nat):Below b w (a.drewN n):=⟨h.os,h.tape,h.output,h.size,h.block⟩
theorem ZU {d:Qo} {nb:Int->Nat} {a:Nat} {f:Option Nat} {w:World} {q:Nat} {R:List RN} {last:Int} (h:Qi d nb a f w q R last) {k:Nat} (g:k<R.length) (b:Qg R[k].id):Hid (∀ w1,Xb w w1->(Instr.lookup 139 (.map (some a)) (Xi R[k].id) false).run Tryz.prog w1=.ok (Xp (nb R[k].id)) w1):=Qa λw1 c=>by have:=(h.below c).map.look b;rw [Qc4 (getElem_mem g)] at this;exact this
theorem Qdp {d:Qo} {nb:Int->Nat} {a:Nat} {f:Option Nat} {w:World} {q:Nat} {R:List RN} {last:Int} (h:Qi d nb a f w q R last) {i:Int} (g:Qg i) (b:∀ n,n ∈ R->n.id≠i):Hid (∀ w1,Xb w w1->(Instr.lookup 139 (.map (some a)) (Xi i) false).run Tryz.prog w1=.ok (.pointer none) w1):=Qa λw1 c=>by have:=(h.below c).map.look g;rw [Qd8 b] at this;exact this
theorem Qaw {a:Qo} {nb:Int->Nat} {c:Nat} {d:Option Nat} {w:World} {q:Nat} {R:List RN} {last:Int} (h:Qi a nb c d w q R last) {k:Nat} (f:k<R.length) {b:Bool} (g:(!R[k].tag.toList.isEmpty)=b):Hid (∀ w1,Xb w w1->Xl 140 #[Xp (nb R[k].id)] w1 λe w'=>e=.returned (.bool b)/\w1=w'):=Qa λw1 hb=>by obtain ⟨l,m,i⟩:=h.node _ (getElem_mem f);have:=QqN (i.kept (R':=R) (w':=w1) (ρ':=a) (λb j e=>hb.block b (h.low b (by rw [e];rfl))) (λ_ _=>rfl) rfl);rw [g] at this;exact this.mono λ_ _ h=>⟨h.1,h.2.symm⟩
theorem QdJ {a:Qo} {nb:Int->Nat} {c:Nat} {f:Option Nat} {w:World} {q:Nat} {R:List RN} {last:Int} (h:Qi a nb c f w q R last) (g:Qp R) {rk:Int->Nat} (k:Up R rk) {i j:Nat} (l:i<R.length) (m:j<R.length) {b:Bool} (d:ZM R (rk R[i].id+1) R[i].id R[j].id=b):Hid (∀ w1,Xb w w1->Xl 141 #[Xp (nb R[i].id),Xp (nb R[j].id)] w1 λe w'=>e=.returned (.bool b)/\w1=w'):=Qa λw1 hb=>by have:=Qto a nb c _ w1 q R last (h.below hb) g rk k i j l m;rw [d] at this;exact this.mono λ_ _ h=>⟨h.1,h.2.symm⟩
theorem QcI {f:Qo} {nb:Int->Nat} {g:Nat} {i:Option Nat} {w:World} {q:Nat} {R:List RN} {last:Int} (h:Qi f nb g i w q R last) {k:Nat} (j:k<R.length) {r:Nat} (l:r<R.length) (a:R[r].id=1) (d:R[k].id≠1):Hid (∀ w1,Xb w w1->(binOp .eql 140 (Xp (nb R[k].id)) (Xp (nb 1))).run Tryz.prog w1=.ok (.bool false) w1):=Qa λw1 hb=>by
 obtain ⟨o,p,b⟩:=h.node _ (getElem_mem j);obtain ⟨s,t,c⟩:=h.node _ (getElem_mem l);have m:Jx w1 (nb R[k].id):=⟨_,_,(hb.block _ b.lt).trans b.blk⟩;have n:Jx w1 (nb 1):=by rw [<- a];exact ⟨_,_,(hb.block _ c.lt).trans c.blk⟩
 rw [Qci m n];have:(nb R[k].id==nb 1)=false:=by rw [beq_eq_false_iff_ne,<- a];exact λe=>d ((b.nb_inj c e).trans a)
 rw [this]
theorem Qa6 {w a:World} {b c d f g h i j:Value} {t:TypeId} (k:w.alloc (.cells #[b,c,d,f,g,h,i,j] t)=a):Xb w a/\w.heap.size<a.heap.size/\a.cell? (Xa w.heap.size 0)=some b/\a.cell? (Xa w.heap.size 1)=some c/\a.cell? (Xa w.heap.size 2)=some d/\a.cell? (Xa w.heap.size 3)=some f/\a.cell? (Xa w.heap.size 4)=some g/\a.cell? (Xa w.heap.size 5)=some h/\a.cell? (Xa w.heap.size 6)=some i/\a.cell? (Xa w.heap.size 7)=some j:=by subst k;exact ⟨Xd,by simp,by simp [go_sem],by simp [go_sem],by simp [go_sem],by simp [go_sem],by simp [go_sem],by simp [go_sem],by simp [go_sem],by simp [go_sem]⟩
theorem QpX {R:List RN} {k:Nat} {n:RN} (f:k<R.length) (c:n.id=R[k].id):∀ i,(∃ m,m ∈ R.set k n/\m.id=i)↔(∃ m,m ∈ R/\m.id=i):=by
 intro i;constructor
 ·rintro ⟨m,a,e⟩;rcases mem_or_eq_of_mem_set a with h|rfl
  ·exact ⟨m,h,e⟩
  exact ⟨R[k],getElem_mem f,by rw [<- c];exact e⟩
 rintro ⟨m,a,e⟩;obtain ⟨j,d,rfl⟩:=getElem_of_mem a;by_cases b:j=k
 ·subst b;exact ⟨n,mem_set d n,by rw [c];exact e⟩
 exact ⟨R[j],mem_iff_getElem.2 ⟨j,by rw [length_set];exact d,by rw [getElem_set_ne (λh=>b h.symm)]⟩,e⟩
theorem Qi.put {d ρ':Qo} {nb:Int->Nat} {f:Nat} {l:Option Nat} {w w':World} {q:Nat} {R:List RN} {last:Int} (h:Qi d nb f l w q R last) (n:Qp R) {k:Nat} (a:k<R.length) {n':RN} (c:n'.id=R[k].id) (o:n'.par=R[k].par) (i:∀ b,(d b).isSome=true->ρ' b=d b) (s:∀ b,(ρ' b).isSome=true->b<w'.heap.size) (g:∀ b r,d b=some r->r.1≠R[k].id->w'.heap[b]?=w.heap[b]?) {av' kv':Value} (t:Jl ρ' nb w' R n' av' kv'):Qi ρ' nb f l w' q (R.set k n') last:=by
 have A:=n.pos _ (getElem_mem a);refine ⟨(g q _ h.role (by show (0:Int)≠_;omega)).trans h.blk,(i q (by rw [h.role];rfl)).trans h.role,(i f (by rw [h.mrole];rfl)).trans h.mrole,?_,λm p=>?_,s,by rw [length_set];exact h.few⟩
 ·rw [length_set,Qhr (QpX a c)];exact h.map.heap (g f _ h.mrole (by show (0:Int)≠_;omega))
 by_cases e:m.id=R[k].id
 ·have:m=n':=QeJ (Qeb n a c) p (mem_set a n') (e.trans c.symm);subst this;exact ⟨av',kv',t.kept (λ_ _ _=>rfl) (λ_ _=>rfl) (Qgq a c o m.id)⟩
 have u:m ∈ R:=by
  rcases mem_or_eq_of_mem_set p with h|rfl
  ·exact h
  exact absurd c e
 obtain ⟨v,x,y⟩:=h.node m u;exact ⟨v,x,y.kept (λb j z=>g b _ z e) i (Qgq a c o m.id)⟩
theorem QqW (p:Qo) (nb:Int->Nat) (c:Nat) (r:Option Nat) (w:World) (q:Nat) (R:List RN) (last:Int) (h:Qi p nb c r w q R last) (d id pa bf f:Int) (tg nm g:ByteArray) (j:Qg id) (k:∀ n,n ∈ R->n.id≠id) : Xl 107 #[Xp q,.agg #[Xi d,Xi id,Xi pa,Xi bf,Xi f,.string tg,.string nm,.string g]] w λe w'=>e=.returned (.bool false)/\Xb w w':=by have i:=Qf h.blk 1 (.map (some c)) rfl;have l:=QN h.blk;have m:=Qdp h j k;clear h;go_enter Tryz.func107,Tryz.ntmps107;go_wp2_with fail;generalize b:w.alloc (.cells #[Xi d,Xi id,Xi pa,Xi bf,Xi f,.string tg,.string nm,.string g] 60)=s;obtain ⟨a,t,-,u,-,-,-,-,-,-⟩:=Qa6 b;have v:=(Xh a q 1 l).trans i;have lk:=λn=>m.out (s.drewN n) (Ql a n);have o:=Qa a;clear b a i;go_big_quiet (fail);go_wp2;go_ret;exact ⟨rfl,Ql o.out _⟩
theorem QuV (x:Qo) (nb:Int->Nat) (i:Nat) (y:Option Nat) (w:World) (q:Nat) (R:List RN) (last:Int) (h:Qi x nb i y w q R last) (j id pa bf l:Int) (tg nm d:ByteArray) (k:Nat) (f:k<R.length) (s:Qg R[k].id) (p:R[k].id=id) (r:R[k].tag.toList.isEmpty=false) : Xl 107 #[Xp q,.agg #[Xi j,Xi id,Xi pa,Xi bf,Xi l,.string tg,.string nm,.string d]] w λe w'=>e=.returned (.bool false)/\Xb w w':=by
 subst p;obtain ⟨B,C,z⟩:=h.node _ (getElem_mem f);have m:=Qf h.blk 1 (.map (some i)) rfl;have t:=QN h.blk;have u:=ZU h f s;have v:=Qaw h f (b:=true) (by rw [r];rfl);clear h z;go_enter Tryz.func107,Tryz.ntmps107;go_wp2_with fail;generalize a:w.alloc (.cells #[Xi j,Xi R[k].id,Xi pa,Xi bf,Xi l,.string tg,.string nm,.string d] 60)=o;have c:=Xt a;have A:w.heap.size<o.heap.size:=by rw [<- a];simp
 have D:=Xz a 1 (Xi R[k].id) rfl;have E:=Xz a 7 (.string d) rfl;have F:=(Xh c q 1 t).trans m;have lk:=λn=>u.out (o.drewN n) (Ql c n);have g:=Qa c;clear a c m;go_big_quiet (fail);go_wp2_with (first|(go_at_call 140;refine (Qb v _ (Ql (Qb g) _)).mono ?_;rintro e w1 ⟨rfl,rfl⟩));go_ret;exact ⟨rfl,Ql g.out _⟩
theorem QqL (A:Qo) (nb:Int->Nat) (i:Nat) (B:Option Nat) (w:World) (q:Nat) (R:List RN) (last:Int) (h:Qi A nb i B w q R last) (j id pa bf l:Int) (tg nm a:ByteArray) (k:Nat) (f:k<R.length) (s:Qg R[k].id) (p:R[k].id=id) (r:R[k].tag.toList.isEmpty=true) (t:a.size<=maxLen) (u:Zx a=false) : Xl 107 #[Xp q,.agg #[Xi j,Xi id,Xi pa,Xi bf,Xi l,.string tg,.string nm,.string a]] w λe w'=>e=.returned (.bool false)/\Xb w w':=by
 subst p;obtain ⟨E,F,C⟩:=h.node _ (getElem_mem f);have m:=Qf h.blk 1 (.map (some i)) rfl;have v:=QN h.blk;have x:=ZU h f s;have y:=Qaw h f (b:=false) (by rw [r];rfl);have z:Hid (∀ w1,Xl 145 #[.string a] w1 λe w'=>e=.returned (.bool false)/\w1=w'):=Qa λw1=>(QbX a _ u t w1).mono λ_ _ h=>⟨h.1,h.2.symm⟩;clear h C;go_enter Tryz.func107,Tryz.ntmps107;go_wp2_with fail;generalize c:w.alloc (.cells #[Xi j,Xi R[k].id,Xi pa,Xi bf,Xi l,.string tg,.string nm,.string a] 60)=o;have d:=Xt c;have D:w.heap.size<o.heap.size:=by rw [<- c];simp
 have G:=Xz c 1 (Xi R[k].id) rfl;have H:=Xz c 7 (.string a) rfl;have I:=(Xh d q 1 v).trans m;have lk:=λn=>x.out (o.drewN n) (Ql d n);have g:=Qa d;clear c d m;go_big_quiet (fail);go_wp2_with (first|(go_at_call 140;refine (Qb y _ (Ql (Qb g) _)).mono ?_;rintro e w1 ⟨rfl,rfl⟩)|(go_at_call 145;refine (Qb z _).mono ?_;rintro e w1 ⟨rfl,rfl⟩));go_ret;exact ⟨rfl,Ql g.out _⟩
theorem Qoq (g:Qo) (nb:Int->Nat) (u:Nat) (B:Option Nat) (w:World) (q:Nat) (R:List RN) (last:Int) (h:Qi g nb u B w q R last) (C id pa bf D:Int) (tg nm a:ByteArray) (k:Nat) (o:k<R.length) (I:Qg R[k].id) (G:R[k].id=id) (S:Qp R) (H:R[k].tag.toList.isEmpty=true) (z:a.size<=maxLen) (J:a.size<=281474976710656) (K:Zx a=true) : Xl 107 #[Xp q,.agg #[Xi C,Xi id,Xi pa,Xi bf,Xi D,.string tg,.string nm,.string a]] w λe w'=>e=.returned (.bool true)/\∃ ρ',QV g ρ' w w'/\Qi ρ' nb u B w' q (R.set k { R[k] with text:=a }) last:=by
 subst G;obtain ⟨T,U,j⟩:=h.node _ (getElem_mem o);have E:=Qf h.blk 1 (.map (some u)) rfl;have L:=QN h.blk;have M:=ZU h o I;have N:=Qaw h o (b:=false) (by rw [H];rfl);have O:Hid (∀ w1,Xl 145 #[.string a] w1 λe w'=>e=.returned (.bool true)/\w1=w'):=Qa λw1=>(QbX a _ K z w1).mono λ_ _ h=>⟨h.1,h.2.symm⟩;have P:Hid (∀ w1,Xl 94 #[.string a] w1 λe w'=>e=.returned (.string a)/\Xb w1 w'):=Qa λw1=>Qcq a w1 J;have V:=Qf j.blk 3 (.string R[k].text) rfl;have W:=Jp j.blk 3;have s:=j.lt;have v:=Qa h;have c:=Qa j;clear h j;go_enter Tryz.func107,Tryz.ntmps107;go_wp2_with fail;generalize f:w.alloc (.cells #[Xi C,Xi R[k].id,Xi pa,Xi bf,Xi D,.string tg,.string nm,.string a] 60)=F;have l:=Xt f;have Y:w.heap.size<F.heap.size:=by rw [<- f];simp
 have a0:=Xz f 1 (Xi R[k].id) rfl;have a1:=Xz f 7 (.string a) rfl;have a2:=(Xh l q 1 L).trans E;have lk:=λn=>M.out (F.drewN n) (Ql l n);have t:=Qa l;clear f l E;go_big_quiet (fail);go_wp2_with (first|(go_at_call 140;refine (Qb N _ (Ql (Qb t) _)).mono ?_;rintro e w1 ⟨rfl,rfl⟩)|(go_at_call 145;refine (Qb O _).mono ?_;rintro e w1 ⟨rfl,rfl⟩)|(go_at_call 94;refine (Qb P _).mono ?_;rintro e w2 ⟨rfl,A⟩;have m:Xb w w2:=(Ql (Qb t) _).trans (A.mono (Qb t).size);have a3:=(Xh m (nb R[k].id) 3 s).trans V;have a4:=(Xj m (nb R[k].id) 3 s).trans W;have d:=Qa m;clear A m));go_ret;refine ⟨rfl,g,⟨⟨d.out.os,d.out.tape,d.out.output,by rw [ZL];exact d.out.size,λb hb X=>?_⟩,λ_ _=>rfl,λ_ h=>.inl h⟩,?_⟩
 ·exact (Below.heap_setCell _ _ _ _ (λe=>X (by rw [e];show (g (nb R[k].id)).isSome=true;rw [c.out.role];rfl))).trans (d.out.block b hb)
 have p:∀ b r,g b=some r->r≠(R[k].id,0)->(w2.setCell (Xa (nb R[k].id) 3) (.string a)).heap[b]?=w.heap[b]?:=λb r e y=>by refine (Below.heap_setCell _ _ _ _ (λx=>y ?_)).trans (d.out.block b (v.out.low b (by rw [e];rfl)));have x:b=nb R[k].id:=x;rw [x,c.out.role] at e;exact (Option.some.inj e).symm
 refine Qi.put (n':={ R[k] with text:=a }) (av':=T) (kv':=U) v.out S o rfl rfl (λ_ _=>rfl) (λb e=>by rw [ZL];exact Nat.lt_of_lt_of_le (v.out.low b e) d.out.size) (λb r e y=>p b r e (λx=>y (by rw [x]))) ⟨?_,c.out.role,?_,c.out.arole,?_,c.out.krole,c.out.few,c.out.rise,c.out.tag,z,c.out.size⟩
 ·have:=Qb4 (i:=3) ((d.out.block _ s).trans c.out.blk) (.string a);exact this
 ·exact QT c.out.arow λb e=>p b _ (c.out.arole b e) (λx=>by have:=(Prod.mk.inj x).2;omega)
 exact QT c.out.krow λb e=>p b _ (c.out.krole b e) (λx=>by have:=(Prod.mk.inj x).2;omega)
end Go.Proofs.YtobgcaemnpkbmaaGreatDoor
