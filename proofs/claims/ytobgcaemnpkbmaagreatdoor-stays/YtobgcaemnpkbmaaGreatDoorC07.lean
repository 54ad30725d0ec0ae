import Derived.StillTailTactics
import Derived.Test.YtobgcaemnpkbmaaGreatDoorC06
namespace Go.Proofs.YtobgcaemnpkbmaaGreatDoor
set_option maxRecDepth 100000
set_option maxHeartbeats 8000000
open Go.RowKit List



attribute [local go_sem ↓] Go.wp_at_zero Go.wp_at_succ
theorem Qx.after {S:Nat->Prop} {w w1 w2:World} (h:Qx S w1 w2) (hb:Xb w w1):Qx S w w2 := ⟨h.os.trans hb.os,h.tape.trans hb.tape,h.output.trans hb.output,Nat.le_trans hb.size h.size,λk a b=>(h.block k (Nat.lt_of_lt_of_le a hb.size) b).trans (hb.block k a)⟩
theorem QfE.after {S:Nat->Prop} {w w1 w2:World} {b:Nat} (h:QfE S w1 w2 b) (a:w.heap.size<=w1.heap.size):QfE S w w2 b:=h.imp id λh=>⟨Nat.le_trans a h.1,h.2⟩
theorem Qbb.mono {S S':Nat->Prop} {w:World} {p:Nat} {R:List RN} {last:Int} {v:Value} (h:Qbb S w p R last v) (a:∀ b,b<w.heap.size->S b->S' b):Qbb S' w p R last v := ⟨a _ h.lt h.sp,h.c0,h.c1,h.c2,h.f0,h.f2,h.row,λg c=>⟨a g (h.row.lt g c).2 (h.srow g c).1,(h.srow g c).2⟩,h.few,λn d=>(h.node n d).mono a,h.apart⟩
theorem QhC.after {S:Nat->Prop} {w w1 w2:World} {p:Nat} {R:List RN} {last:Int} {v a:Value} (h:QhC S w1 w2 p R last v a) (c:w.heap.size<=w1.heap.size):QhC S w w2 p R last v a := ⟨h.1.mono λ_ _ e=>e.after c,λb e=>(h.2 b e).imp id (Nat.le_trans c)⟩




attribute [local go_sem ↓] Go.wp_at_zero Go.wp_at_succ
def Zn (m:Qd):List (ByteArray × ByteArray):=(List.range m.an).map λj=>(m.nm j,m.vl j)
theorem Qdo (m:Qd):(Zn m).length=m.an:=by unfold Zn;simp
theorem Qk4 {m:Qd} {j:Nat} (h:j<m.an):Q4 (Zn m) j=m.nm j:=by unfold Q4 Zn;simp [h]
theorem QlU {m:Qd} {j:Nat} (h:j<m.an):Zq (Zn m) j=m.vl j:=by unfold Zq Zn;simp [h]
def Jv (L:Nat->Qd) (i:Nat):Int:=if i=0 then 0 else ZF L i i+1
structure Qp (R:List RN):Prop where
 pos:∀ n,n ∈ R->0<n.id
 inj:∀ i j,(hi:i<R.length)->(hj:j<R.length)->R[i].id=R[j].id->i=j
theorem Qh0 {R:List RN} {id:Int} {k i:Nat}:i ∈ Qbt R id k↔i<k/\QaL R i=id:=by unfold Qbt;rw [mem_filter,mem_range];simp
theorem QcX {R:List RN} {id:Int} {i:Nat} (h:i ∈ Qy R id):i<R.length/\QaL R i=id/\id≠0:=by
 unfold Qy at h;split at h
 ·simp at h
 next a=>exact ⟨(Qh0.1 h).1,(Qh0.1 h).2,a⟩
theorem Qex {R:List RN} {rk:Int->Nat} (d:Up R rk) {a i:Nat} (h:i ∈ Qy R (Qj R a)):rk (Qj R a)<rk (Qj R i):=by obtain ⟨b,c,f⟩:=QcX h;rw [QS b];rw [QbA b] at c;have:=d.rank R[i] (getElem_mem b) (by rw [c];exact f);rwa [c] at this
def above (R:List RN) (rk:Int->Nat) (r:Nat):Nat:=R.countP λn=>decide (r<rk n.id)
theorem QgZ {R:List RN} {rk:Int->Nat} {r s:Nat} (g:r<s) {n:RN} (b:n ∈ R) (i:rk n.id=s):above R rk s<above R rk r:=by
 unfold above;induction R with
 | nil=>simp at b
 | cons x R ih =>
  rw [countP_cons,countP_cons];have h:R.countP (λn=>decide (s<rk n.id))<=R.countP (λn=>decide (r<rk n.id)):=by apply countP_mono_left;intro j _ d;simp at d ⊢;omega
  rcases mem_cons.1 b with rfl|b
  ·have a:decide (s<rk n.id)=false:=by simp;omega
   have c:decide (r<rk n.id)=true:=by simp;omega
   rw [a,c];simp;omega
  have:=ih b;by_cases f:s<rk x.id
  ·have a:decide (s<rk x.id)=true:=by simp [f]
   have c:decide (r<rk x.id)=true:=by simp;omega
   rw [a,c];simp;omega
  have a:decide (s<rk x.id)=false:=by simp;omega
  rw [a];simp;omega
theorem QoE {R:List RN}:∀ {f a:Nat},ZP R f a->ZP R (f+1) a:=by
 intro f;induction f with
 | zero=>intro a h;exact absurd h (by simp [ZP])
 | succ f ih=>intro a h;exact ⟨h.1,λk b=>ih (h.2 k b)⟩
theorem Qu4 {R:List RN} {f g a:Nat} (h:ZP R f a) (b:f<=g):ZP R g a:=by induction b with| refl=>exact h| step _ ih=>exact QoE ih
theorem QsT {R:List RN} {rk:Int->Nat} (g:Up R rk):∀ (m a:Nat),a<R.length->above R rk (rk (Qj R a))<=m->ZP R (m+1) a:=by
 intro m;induction m with
 | zero =>intro a d h;refine ⟨d,λk c=>?_⟩;have f:=Qex g c;have b:=(QcX c).1;have:=QgZ (R:=R) (rk:=rk) f (getElem_mem b) (by rw [QS b]);omega
 | succ m ih =>intro a d h;refine ⟨d,λk c=>?_⟩;have f:=Qex g c;have b:=(QcX c).1;have:=QgZ (R:=R) (rk:=rk) f (getElem_mem b) (by rw [QS b]);exact ih k b (by omega)
theorem QaA {R:List RN} {rk:Int->Nat} (c:Up R rk) {a:Nat} (b:a<R.length):ZP R R.length a:=by
 have d:above R rk (rk (Qj R a))<R.length:=by
  have f:=QgZ (R:=R) (rk:=λx=>rk x+1) (r:=0) (s:=rk (Qj R a)+1) (by omega) (getElem_mem b) (by rw [QS b]);have g:above R (λx=>rk x+1) (rk (Qj R a)+1)=above R rk (rk (Qj R a)):=by
   unfold above;congr 1
   funext n;simp
  have h:above R (λx=>rk x+1) 0<=R.length:=countP_le_length;omega
 exact Qu4 (QsT c (R.length-1) a b (by omega)) (by omega)
def upP (R:List RN) (x:Int):Int:=if x=0 then 0 else Qdl R x
def Zp (R:List RN):Nat->Int->Int
 | 0,x=>x
 | m+1,x=>Zp R m (upP R x)
theorem QdT (R:List RN) (m:Nat):Zp R m 0=0:=by
 induction m with
 | zero=>rfl
 | succ m ih =>
  rw [Zp];have:upP R 0=0:=by unfold upP;rw [if_pos rfl]
  rw [this];exact ih
theorem QjS (R:List RN) (m k:Nat) (x:Int):Zp R (m+k) x=Zp R k (Zp R m x):=by induction m generalizing x with| zero=>rw [Nat.zero_add];rfl| succ m ih=>rw [Nat.succ_add,Zp,Zp,ih]
theorem QiC {R:List RN} (b:Qp R) {i:Nat} (a:i<R.length):QX R R[i].id=(i:Int) := QuJ a rfl (λj c d e=>by have:=b.inj j i c a e;omega)
theorem QcF {R:List RN} (b:Qp R) {i:Nat} (a:i<R.length):upP R R[i].id=R[i].par:=by have c:=b.pos R[i] (getElem_mem a);unfold upP Qdl;rw [if_neg (by omega),QiC b a];exact QbA a
theorem Qjj {R:List RN} {rk:Int->Nat} (f:Up R rk) (g:Qp R):∀ (m:Nat) (x:Int),(∃ n,n ∈ R/\n.id=x)->Zp R m x≠0->rk (Zp R m x)<=rk x/\∃ n,n ∈ R/\n.id=Zp R m x:=by
 intro m;induction m with
 | zero=>intro x b _;exact ⟨Nat.le_refl _,b⟩
 | succ m ih =>
  intro x b a;rw [Zp] at a ⊢;obtain ⟨n,h,rfl⟩:=b;obtain ⟨i,c,rfl⟩:=getElem_of_mem h;rw [QcF g c] at a ⊢;by_cases d:R[i].par=0
  ·rw [d,QdT] at a;exact absurd rfl a
  have l:=f.rank R[i] (getElem_mem c) d;have j:=(f.par R[i] (getElem_mem c)).resolve_left d;have k:=ih R[i].par j a;exact ⟨by omega,k.2⟩
theorem QcL {R:List RN} (j:Qp R):∀ (f a:Nat) (d:Int),ZP R f a->∀ x,x ∈ QF R f a d->x.1<R.length/\∃ m,Zp R m (Qj R x.1)=Qj R a:=by
 intro f;induction f with
 | zero=>intro a d h;exact absurd h (by simp [ZP])
 | succ f ih =>
  intro a d h x b;rw [QF] at b;rcases mem_cons.1 b with rfl|b
  ·exact ⟨h.1,0,rfl⟩
  obtain ⟨k,g,b⟩:=mem_flatMap.1 b;obtain ⟨l,m,n⟩:=ih k (d+1) (h.2 k g) x b;obtain ⟨c,i,_⟩:=QcX g;refine ⟨l,m+1,?_⟩;rw [QjS,n];show upP R (Qj R k)=_;rw [QS c,QcF j c,<- QbA c];exact i
theorem QrR {α j:Type} {l:List α} {g:α->List j} (k:l.Nodup) (h:∀ a,a ∈ l->(g a).Nodup) (i:∀ a b,a ∈ l->b ∈ l->a≠b->∀ x,x ∈ g a->x ∉ g b):(l.flatMap g).Nodup:=by induction l with| nil=>simp| cons a l ih =>rw [flatMap_cons,nodup_append];have f:=nodup_cons.1 k;refine ⟨h a (by simp),ih f.2 (λb hb=>h b (by simp [hb])) (λb c hb m=>i b c (by simp [hb]) (by simp [m])),λx n o d e=>?_⟩;subst e;obtain ⟨b,hb,d⟩:=mem_flatMap.1 d;exact i a b (by simp) (by simp [hb]) (λe=>f.1 (e▸hb)) x n d
theorem QtI (R:List RN) (id:Int):(Qy R id).Nodup:=by
 unfold Qy Qbt;split
 ·simp
 exact List.Pairwise.filter _ nodup_range
theorem Qhh {R:List RN} {rk:Int->Nat} (t:Up R rk) (n:Qp R):∀ (f a:Nat) (d:Int),ZP R f a->((QF R f a d).map (·.1)).Nodup:=by
 intro f;induction f with
 | zero=>intro a d h;exact absurd h (by simp [ZP])
 | succ f ih =>
  intro a d h;rw [QF,map_cons,map_flatMap,nodup_cons];have y:∀ k,k ∈ Qy R (Qj R a)->∀ x,x ∈ (QF R f k (d+1)).map (·.1)->x<R.length/\∃ m,Zp R m (Qj R x)=Qj R k:=by intro k l x o;obtain ⟨V,N,rfl⟩:=mem_map.1 o;exact QcL n f k (d+1) (h.2 k l) V N
  have G:∀ i,i<R.length->Qj R i≠0:=λi I=>by rw [QS I];have:=n.pos R[i] (getElem_mem I);omega
  refine ⟨λo=>?_,QrR (QtI _ _) (λk l=>ih k (d+1) (h.2 k l)) (λB C z A H x L M=>?_)⟩
  ·obtain ⟨k,l,o⟩:=mem_flatMap.1 o;obtain ⟨D,m,J⟩:=y k l a o;have O:=Qex t l;have E:=Qjj t n m (Qj R a) ⟨R[a],getElem_mem D,(QS D).symm⟩ (by rw [J];exact G k (QcX l).1);rw [J] at E;omega
  obtain ⟨D,b,u⟩:=y B z x L;obtain ⟨_,c,v⟩:=y C A x M;have key:∀ (p q:Nat) (b c:Nat),p ∈ Qy R (Qj R a)->q ∈ Qy R (Qj R a)->Zp R b (Qj R x)=Qj R p->Zp R c (Qj R x)=Qj R q->b<=c->p=q:=by
   intro p q b c P K u v s;obtain ⟨r,S,_⟩:=QcX P;obtain ⟨F,_,_⟩:=QcX K;have g:Zp R (c-b) (Qj R p)=Qj R q:=by rw [<- u,<- QjS,show b+(c-b)=c by omega];exact v
   by_cases T:c-b=0
   ·rw [T] at g;have g:Qj R p=Qj R q:=g;rw [QS r,QS F] at g;exact n.inj p q r F g
   obtain ⟨j,U⟩:∃ j,c-b=j+1:=⟨c-b-1,by omega⟩;rw [U,Zp,QS r,QcF n r,<- QbA r,S] at g;have O:=Qex t K;have E:=Qjj t n j (Qj R a) ⟨R[a]'h.1,getElem_mem h.1,(QS h.1).symm⟩ (by rw [g];exact G q F);rw [g] at E;omega
  rcases Nat.le_total b c with s|s
  ·exact H (key B C b c z A u v s)
  exact H (key C B c b A z v u s).symm
theorem QuW {l:List Nat} {n:Nat} (h:l.Nodup) (hb:∀ x,x ∈ l->x<n):l.length<=n:=by
 induction n generalizing l with
 | zero =>cases l with| nil=>exact Nat.le_refl _| cons a l=>exact absurd (hb a (by simp)) (Nat.not_lt_zero _)
 | succ n ih =>
  by_cases c:n ∈ l
  ·have i:=ih (h.erase n) (λx b=>by
    have d:=mem_of_mem_erase b;have f:=hb x d;have g:x≠n:=λe=>by subst e;exact h.not_mem_erase b
    omega)
   have j:=length_erase_of_mem c;omega
  have i:=ih h (λx b=>by have f:=hb x b;have g:x≠n:=λe=>c (e▸b);omega);omega
theorem Qmy {R:List RN} {rk:Int->Nat} (c:Up R rk) (b:Qp R) {f a:Nat} {d:Int} (h:ZP R f a):(QF R f a d).length<=R.length:=by have g:=QuW (Qhh c b f a d h) (n:=R.length) (λx i=>by obtain ⟨k,j,rfl⟩:=mem_map.1 i;exact (QcL b f a d h k j).1);simpa using g
theorem Qp.of_nodup {R:List RN} (f:∀ n,n ∈ R->0<n.id) (h:(R.map (·.id)).Nodup):Qp R:=by
 refine ⟨f,λi j c d e=>?_⟩;have b:=pairwise_iff_getElem.1 h;rcases Nat.lt_trichotomy i j with a|a|a
 ·exact absurd (by rw [getElem_map,getElem_map];exact e) (b i j (by simpa using c) (by simpa using d) a)
 ·exact a
 exact absurd (by rw [getElem_map,getElem_map];exact e.symm) (b j i (by simpa using d) (by simpa using c) a)
theorem Qp.nodup {R:List RN} (h:Qp R):(R.map (·.id)).Nodup:=by refine pairwise_iff_getElem.2 λi j a b c e=>?_;have:=h.inj i j (by simpa using a) (by simpa using b) (by simpa using e);omega
def Qbi (R:List RN) (fr:Nat):Nat->List RN
 | 0=>[]
 | k+1=>Qbi R fr k++(if k=fr then [] else (R.drop k).take 1)
theorem QtS {R:List RN} {fr:Nat}:∀ k,k<=R.length->(R.take k).Perm (Qbi R fr k++(if h:fr<k/\fr<R.length then [R[fr]'h.2] else [])):=by
 intro k;induction k with
 | zero=>intro _;simp [Qbi]
 | succ k ih =>
  intro a;have ih:=ih (by omega);rw [take_succ_eq_append_getElem (by omega),Qbi];by_cases h:k=fr
  ·subst h;rw [if_pos rfl,dif_pos ⟨by omega,by omega⟩];rw [dif_neg (by omega),append_nil] at ih;rw [append_nil];exact ih.append_right [R[k]]
  rw [if_neg h,Qcl (by omega)];by_cases b:fr<k
  ·rw [dif_pos ⟨by omega,by omega⟩] at ih;rw [dif_pos ⟨by omega,by omega⟩];refine (ih.append_right [R[k]]).trans ?_;rw [append_assoc,append_assoc];exact List.Perm.append_left _ (perm_append_comm)
  rw [dif_neg (by omega),append_nil] at ih;rw [dif_neg (by omega),append_nil];exact ih.append_right [R[k]]
theorem Qpg {R:List RN} {n:RN} {fr:Nat} {bf:Int} (g:Qp R):∀ k,k<=R.length->(JO R n fr bf k).Perm (Qbi R fr k++(if bf≠0/\∃ i,i<k/\Qj R i=bf then [n] else [])):=by
 intro k;induction k with
 | zero=>intro _;simp [JO,Qbi]
 | succ k ih =>
  intro j;have ih:=ih (by omega);rw [JO,Qbi];by_cases hb:bf≠0/\Qj R k=bf
  ·have d:¬ (bf≠0/\∃ i,i<k/\Qj R i=bf):=λ⟨_,i,b,e⟩=>by have:=g.inj i k (by omega) (by omega) (by rw [<- QS (by omega),<- QS (by omega),e,hb.2]);omega
   rw [if_neg d,append_nil] at ih;have c:bf≠0/\∃ i,i<k+1/\Qj R i=bf:=⟨hb.1,k,by omega,hb.2⟩;rw [if_pos hb,if_pos c,append_assoc,append_assoc];exact ih.append perm_append_comm
  rw [if_neg hb,append_nil];have h:(bf≠0/\∃ i,i<k+1/\Qj R i=bf)↔(bf≠0/\∃ i,i<k/\Qj R i=bf):=by
   constructor
   ·rintro ⟨a,i,b,e⟩;refine ⟨a,i,?_,e⟩;by_cases f:i=k
    ·subst f;exact absurd ⟨a,e⟩ hb
    omega
   rintro ⟨a,i,b,e⟩;exact ⟨a,i,by omega,e⟩
  simp only [h];refine (ih.append_right _).trans ?_;rw [append_assoc,append_assoc];exact List.Perm.append_left _ perm_append_comm
theorem Qc8 {R:List RN} {n:RN} {fr:Nat} {bf:Int} (f:Qp R) (c:fr<R.length) (hb:bf=0 \/ ∃ i,i<R.length/\Qj R i=bf) : (Q6 R n fr bf).Perm (Qbi R fr R.length++[n])/\R.Perm (Qbi R fr R.length++[R[fr]]):=by
 have d:=QtS (R:=R) (fr:=fr) R.length (Nat.le_refl _);rw [take_length,dif_pos ⟨c,c⟩] at d;refine ⟨?_,d⟩;have b:=Qpg (n:=n) (fr:=fr) (bf:=bf) f R.length (Nat.le_refl _);unfold Q6;by_cases a:bf=0
 ·rw [if_neg (λh=>h.1 a),append_nil] at b;rw [if_pos a];exact b.append_right [n]
 rw [if_pos ⟨a,hb.resolve_left a⟩] at b;rw [if_neg a,append_nil];exact b
theorem QmI {R:List RN} {n:RN} {fr:Nat} {bf:Int} (d:Qp R) (c:fr<R.length) (hb:bf=0 \/ ∃ i,i<R.length/\Qj R i=bf):(Q6 R n fr bf).length=R.length:=by have h:=Qc8 (n:=n) d c hb;have a:=h.1.length_eq;have b:=h.2.length_eq;rw [length_append] at a b;simp at a b;omega
theorem Qfk {R:List RN} {n:RN} {fr:Nat} {bf:Int} (c:Qp R) (b:fr<R.length) (hb:bf=0 \/ ∃ i,i<R.length/\Qj R i=bf):∀ m,m ∈ Q6 R n fr bf->m ∈ R \/ m=n:=by
 intro m a;have h:=Qc8 (n:=n) c b hb;rcases mem_append.1 (h.1.mem_iff.1 a) with a|a
 ·exact .inl (h.2.mem_iff.2 (mem_append.2 (.inl a)))
 exact .inr (mem_singleton.1 a)
theorem Qh2 {R:List RN} {n:RN} {fr:Nat} {bf:Int} (a:Qp R) (b:fr<R.length) (hb:bf=0 \/ ∃ i,i<R.length/\Qj R i=bf) (g:n.id=R[fr].id):Qp (Q6 R n fr bf):=by
 have h:=Qc8 (n:=n) a b hb;refine Qp.of_nodup (λm c=>?_) ?_
 ·rcases Qfk a b hb m c with c|rfl
  ·exact a.pos m c
  rw [g];exact a.pos _ (getElem_mem b)
 have d:=(h.1.map (·.id)).nodup_iff;have f:=(h.2.map (·.id)).nodup_iff;rw [map_append] at d f;simp only [map_cons,map_nil,g] at d f;exact d.2 (f.1 a.nodup)
theorem QmY {R:List RN} {fr:Nat}:∀ {k:Nat} {m:RN},k<=R.length->m ∈ Qbi R fr k->∃ i,∃ a:i<R.length,i≠fr/\m=R[i]:=by
 intro k;induction k with
 | zero=>intro m _ h;simp [Qbi] at h
 | succ k ih =>
  intro m b h;rw [Qbi] at h;rcases mem_append.1 h with h|h
  ·exact ih (by omega) h
  by_cases e:k=fr
  ·rw [if_pos e] at h;simp at h
  rw [if_neg e,Qcl (by omega)] at h;exact ⟨k,by omega,e,mem_singleton.1 h⟩
theorem QkX {R:List RN} {rk:Int->Nat} (g:Up R rk) (j:Qp R) {other:Int} (k:other≠0):∀ (f:Nat) (x:Int),(x=0 \/ ∃ n,n ∈ R/\n.id=x)->(x=0 \/ rk x<f)->ZM R f x other=false->∀ m,Zp R m x≠other:=by
 intro f;induction f with
 | zero =>
  intro x _ b _ m;rcases b with rfl|b
  ·rw [QdT];exact λe=>k e.symm
  omega
 | succ f ih =>
  intro x o b h m;by_cases a:x=0
  ·subst a;rw [QdT];exact λe=>k e.symm
  rw [ZM,if_neg a] at h;by_cases d:x=other
  ·rw [if_pos d] at h;cases h
  rw [if_neg d] at h;cases m with
  | zero=>exact d
  | succ m =>
   rw [Zp];obtain ⟨n,p,rfl⟩:=o.resolve_left a;obtain ⟨i,c,rfl⟩:=getElem_of_mem p;have q:Qdl R R[i].id=R[i].par:=by have:=QcF j c;unfold upP at this;rwa [if_neg a] at this
   rw [QcF j c];rw [q] at h;refine ih R[i].par (g.par _ (getElem_mem c)) ?_ h m;by_cases l:R[i].par=0
   ·exact .inl l
   right;have:=g.rank R[i] (getElem_mem c) l;have:=b.resolve_left a;omega
theorem Qqo {R:List RN} {rk:Int->Nat} (l:Up R rk) (d:Qp R) {fr:Nat} {bf pa:Int} (g:fr<R.length) (hb:bf=0 \/ ∃ i,i<R.length/\Qj R i=bf) (p:∃ n,n ∈ R/\n.id=pa) (q:∀ m,Zp R m pa≠R[fr].id) : ∃ r,Up (Q6 R { R[fr] with par:=pa } fr bf) r:=by
 classical
 have c:=Qc8 (n:={ R[fr] with par:=pa }) d g hb;have k:∀ x,(∃ n,n ∈ R/\n.id=x)->∃ n,n ∈ Q6 R { R[fr] with par:=pa } fr bf/\n.id=x:=by
  rintro x ⟨n,t,rfl⟩;rcases mem_append.1 (c.2.mem_iff.1 t) with h|h
  ·exact ⟨n,c.1.mem_iff.2 (mem_append.2 (.inl h)),rfl⟩
  have:=mem_singleton.1 h;subst this;exact ⟨{ R[fr] with par:=pa },c.1.mem_iff.2 (mem_append.2 (.inr (by simp))),rfl⟩
 have f:∀ m,m ∈ Q6 R { R[fr] with par:=pa } fr bf->(∃ i,∃ a:i<R.length,i≠fr/\m=R[i]) \/ m={ R[fr] with par:=pa }:=by
  intro m b;rcases mem_append.1 (c.1.mem_iff.1 b) with h|h
  ·exact .inl (QmY (Nat.le_refl _) h)
  exact .inr (mem_singleton.1 h)
 refine ⟨λx=>if ∃ j,Zp R j x=R[fr].id then rk x+rk pa+1 else rk x,λm b=>?_,λm b u=>?_⟩
 ·rcases f m b with ⟨i,a,_,rfl⟩|rfl
  ·exact (l.par _ (getElem_mem a)).imp id (k _)
  exact .inr (k pa p)
 rcases f m b with ⟨i,a,s,rfl⟩|rfl
 ·have z:=l.rank _ (getElem_mem a) u;have o:(∃ j,Zp R j R[i].par=R[fr].id)↔∃ j,Zp R j R[i].id=R[fr].id:=by
   constructor
   ·rintro ⟨j,e⟩;exact ⟨j+1,by rw [Zp,QcF d a];exact e⟩
   rintro ⟨j,e⟩;cases j with| zero =>have e:R[i].id=R[fr].id:=e;exact absurd (d.inj i fr a g e) s| succ j=>exact ⟨j,by rw [Zp,QcF d a] at e;exact e⟩
  simp only [o];split<;>omega
 have v:¬ ∃ j,Zp R j pa=R[fr].id:=λ⟨j,e⟩=>q j e;have y:∃ j,Zp R j R[fr].id=R[fr].id:=⟨0,rfl⟩;show (if ∃ j,Zp R j pa=R[fr].id then _ else _)<(if ∃ j,Zp R j R[fr].id=R[fr].id then _ else _);rw [if_neg v,if_pos y];show rk pa<rk R[fr].id+rk pa+1;omega
theorem Qql {R:List RN}:∀ (f a:Nat) (d:Int),ZP R f a->∀ x,x ∈ QF R f a d->∀ i,i ∈ Qy R (Qj R x.1)->∃ c,(i,c) ∈ QF R f a d:=by
 intro f;induction f with
 | zero=>intro a d h;exact absurd h (by simp [ZP])
 | succ f ih =>
  intro a d h x b i g;rw [QF] at b ⊢;rcases mem_cons.1 b with rfl|b
  ·refine ⟨d+1,mem_cons.2 (.inr (mem_flatMap.2 ⟨i,g,?_⟩))⟩;have:=h.2 i g;cases f with| zero=>exact absurd this (by simp [ZP])| succ f=>rw [QF];simp
  obtain ⟨k,j,b⟩:=mem_flatMap.1 b;obtain ⟨c,l⟩:=ih k (d+1) (h.2 k j) x b i g;exact ⟨c,mem_cons.2 (.inr (mem_flatMap.2 ⟨k,j,l⟩))⟩
theorem Qfq {b:List (Nat × Int)} {i:Nat}:Qcc b i=true↔∃ d,(i,d) ∈ b:=by
 unfold Qcc;rw [any_eq_true];constructor
 ·rintro ⟨⟨a,d⟩,h,e⟩;have e:a=i:=by simpa using e
  subst e;exact ⟨d,h⟩
 rintro ⟨d,h⟩;exact ⟨(i,d),h,by simp⟩
theorem Qgg {R:List RN} {f:List (Nat × Int)}:∀ {k:Nat} {m:RN},k<=R.length->(m ∈ Qa1 R f k↔∃ i,∃ a:i<R.length,i<k/\Qcc f i=false/\m=R[i]):=by
 intro k;induction k with
 | zero=>intro m _;simp [Qa1]
 | succ k ih =>
  intro m l;rw [Qa1,mem_append,ih (by omega)];constructor
  ·rintro (⟨i,a,j,b,c⟩|h)
   ·exact ⟨i,a,by omega,b,c⟩
   cases d:Qcc f k with| true=>rw [d] at h;simp at h| false =>rw [d,if_neg (by simp),Qcl (by omega)] at h;exact ⟨k,by omega,by omega,d,mem_singleton.1 h⟩
  rintro ⟨i,a,j,b,c⟩;by_cases g:i=k
  ·subst g;right;rw [b,if_neg (by simp),Qcl a];exact mem_singleton.2 c
  exact .inl ⟨i,a,by omega,b,c⟩
theorem Qqb (R:List RN) (b:List (Nat × Int)):∀ k,k<=R.length->(Qa1 R b k).Sublist (R.take k):=by
 intro k;induction k with
 | zero=>intro _;simp [Qa1]
 | succ k ih =>
  intro c;have a:k<R.length:=by omega
  rw [Qa1,take_succ_eq_append_getElem a];refine (ih (by omega)).append ?_;split
  ·exact nil_sublist _
  rw [Qcl a];exact List.Sublist.refl _
theorem QmF {R:List RN} {b:List (Nat × Int)} (a:Qp R):Qp (rmP R b):=by have h:=Qqb R b R.length (Nat.le_refl _);rw [take_length] at h;exact Qp.of_nodup (λn c=>a.pos n (h.subset c)) ((h.map (·.id)).nodup a.nodup)
theorem QrD {R:List RN} {rk:Int->Nat} (o:Up R rk) (_hI:Qp R) {f a:Nat} {d:Int} (h:ZP R f a):Up (rmP R (QF R f a d)) rk:=by
 have l:∀ m,m ∈ rmP R (QF R f a d)->∃ i,∃ b:i<R.length,Qcc (QF R f a d) i=false/\m=R[i]:=λm c=>by obtain ⟨i,b,_,s,t⟩:=(Qgg (Nat.le_refl _)).1 c;exact ⟨i,b,s,t⟩
 refine ⟨λm c=>?_,λm c g=>?_⟩
 ·obtain ⟨i,b,u,rfl⟩:=l m c;by_cases g:R[i].par=0
  ·exact .inl g
  obtain ⟨n,v,e⟩:=(o.par _ (getElem_mem b)).resolve_left g;obtain ⟨j,k,rfl⟩:=getElem_of_mem v;refine .inr ⟨R[j],(Qgg (Nat.le_refl _)).2 ⟨j,k,k,?_,rfl⟩,e⟩;cases p:Qcc (QF R f a d) j with
  | false=>rfl
  | true =>
   obtain ⟨x,q⟩:=Qfq.1 p;have r:i ∈ Qy R (Qj R j):=by unfold Qy;rw [QS k,e,if_neg g];exact Qh0.2 ⟨b,QbA b⟩
   have:=Qfq.2 (Qql f a d h (j,x) q i r);rw [u] at this;cases this
 obtain ⟨i,b,_,rfl⟩:=l m c;exact o.rank _ (getElem_mem b) g
theorem Qeb {R:List RN} {k:Nat} {n:RN} (a:Qp R) (b:k<R.length) (d:n.id=R[k].id):Qp (R.set k n):=by
 refine Qp.of_nodup (λm f=>?_) ?_
 ·rcases mem_or_eq_of_mem_set f with h|rfl
  ·exact a.pos m h
  rw [d];exact a.pos _ (getElem_mem b)
 have e:(R.set k n).map (·.id)=R.map (·.id):=by
  rw [map_set];apply ext_getElem?;intro j;by_cases c:k=j
  ·subst c;rw [getElem?_set_self (by simpa using b),getElem?_map,getElem?_eq_getElem b,d];rfl
  rw [getElem?_set_ne c]
 rw [e];exact a.nodup
theorem Qo3 {R:List RN} {rk:Int->Nat} {k:Nat} {n:RN} (b:Up R rk) (c:k<R.length) (j:n.id=R[k].id) (l:n.par=R[k].par):Up (R.set k n) rk:=by
 have f:∀ x,(∃ m,m ∈ R/\m.id=x)->∃ m,m ∈ R.set k n/\m.id=x:=by
  rintro x ⟨m,a,rfl⟩;obtain ⟨i,o,rfl⟩:=getElem_of_mem a;by_cases g:k=i
  ·subst g;exact ⟨n,mem_set c n,j⟩
  refine ⟨R[i],?_,rfl⟩;have:(R.set k n)[i]'(by simpa using o)=R[i]:=getElem_set_ne g _;rw [<- this];exact getElem_mem _
 refine ⟨λm a=>?_,λm a d=>?_⟩
 ·rcases mem_or_eq_of_mem_set a with h|rfl
  ·exact (b.par m h).imp id (f _)
  rw [l];exact (b.par _ (getElem_mem c)).imp id (f _)
 rcases mem_or_eq_of_mem_set a with h|rfl
 ·exact b.rank m h d
 rw [l] at d ⊢;rw [j];exact b.rank _ (getElem_mem c) d
theorem Qmv {R:List RN} {n:RN} (b:Qp R) (c:0<n.id) (d:∀ m,m ∈ R->m.id<n.id):Qp (R++[n]):=by
 refine Qp.of_nodup (λm a=>?_) ?_
 ·rcases mem_append.1 a with h|h
  ·exact b.pos m h
  rw [mem_singleton.1 h];exact c
 rw [map_append,nodup_append];refine ⟨b.nodup,by simp,λx f i g e=>?_⟩;obtain ⟨m,a,rfl⟩:=mem_map.1 f;simp at g;have:=d m a;omega
theorem Qn7 {R:List RN} {rk:Int->Nat} {n:RN} (c:Up R rk) (d:n.par=0):Up (R++[n]) rk:=by
 refine ⟨λm a=>?_,λm a b=>?_⟩
 ·rcases mem_append.1 a with h|h
  ·exact (c.par m h).imp id (λ⟨x,f,e⟩=>⟨x,mem_append.2 (.inl f),e⟩)
  rw [mem_singleton.1 h];exact .inl d
 rcases mem_append.1 a with h|h
 ·exact c.rank m h b
 rw [mem_singleton.1 h] at b;exact absurd d b
theorem QiW (l:List (ByteArray × ByteArray)) (nm vl:ByteArray):∀ k,k<=l.length->∀ x,x ∈ (Qav l nm vl k).1->x ∈ l \/ x=(nm,vl):=by
 intro k;induction k with
 | zero=>intro _ x h;simp [Qav] at h
 | succ k ih =>
  intro i x h;have c:k<l.length:=by omega
  have ih:=ih (by omega) x;have f:Qa2 l k=l[k]:=by simp [Qa2,c]
  rw [Qav] at h;simp only [f] at h;have g:l[k] ∈ l:=getElem_mem c;have d:∀ a,a ∈ (if (Qav l nm vl k).2=false/\Op.bytesLess l[k].1.toList nm.toList=false then (Qav l nm vl k).1++[(nm,vl)] else (Qav l nm vl k).1)->a ∈ (Qav l nm vl k).1 \/ a=(nm,vl):=by
   intro a b;split at b
   ·rcases mem_append.1 b with h|h
    ·exact .inl h
    exact .inr (mem_singleton.1 h)
   exact .inl b
  split at h
  ·rcases d x h with h|h
   ·exact ih h
   exact .inr h
  rcases mem_append.1 h with h|h
  ·rcases d x h with h|h
   ·exact ih h
   exact .inr h
  exact .inl (by rw [mem_singleton.1 h];exact g)
theorem QfK {l:List (ByteArray × ByteArray)} {nm vl:ByteArray} {x:ByteArray × ByteArray} (h:x ∈ ZZ l nm vl):x ∈ l \/ x=(nm,vl):=by
 unfold ZZ at h;split at h
 ·exact QiW l nm vl _ (Nat.le_refl _) x h
 rcases mem_append.1 h with h|h
 ·exact QiW l nm vl _ (Nat.le_refl _) x h
 exact .inr (mem_singleton.1 h)
theorem QlY {l:List (ByteArray × ByteArray)} {nm:ByteArray} {x:ByteArray × ByteArray} (h:x ∈ ZE l nm):x ∈ l:=(mem_filter.1 h).1
structure QE (R:List RN) (last:Int):Prop where
 ids:Qp R
 up:∃ rk,Up R rk
 top:∀ n,n ∈ R->n.id<=last
 root:∃ n,n ∈ R/\n.id=1/\n.par=0
theorem QE.last_pos {R:List RN} {last:Int} (h:QE R last):1<=last:=by obtain ⟨n,a,e,_⟩:=h.root;have:=h.top n a;omega
theorem QE.ins {R:List RN} {last:Int} (h:QE R last) {rk:Int->Nat} (g:Up R rk) {k:Nat} {bf pa:Int} (a:k<R.length) (o:R[k].id≠1) (hb:bf=0 \/ ∃ i,i<R.length/\Qj R i=bf) (f:∃ n,n ∈ R/\n.id=pa) (l:ZM R (rk pa+1) pa R[k].id=false) : QE (Q6 R { R[k] with par:=pa } k bf) last:=by
 have p:=h.ids.pos _ (getElem_mem a);have m:=QkX g h.ids (other:=R[k].id) (by omega) (rk pa+1) pa (.inr f) (.inr (by omega)) l;have j:=Qfk (n:={ R[k] with par:=pa }) h.ids a hb;have d:=Qc8 (n:={ R[k] with par:=pa }) h.ids a hb;refine ⟨Qh2 h.ids a hb rfl,Qqo g h.ids a hb f m,λn b=>?_,?_⟩
 ·rcases j n b with b|rfl
  ·exact h.top n b
  exact h.top R[k] (getElem_mem a)
 obtain ⟨n,b,e⟩:=h.root;rcases mem_append.1 (d.2.mem_iff.1 b) with c|c
 ·exact ⟨n,d.1.mem_iff.2 (mem_append.2 (.inl c)),e⟩
 have:=mem_singleton.1 c;subst this;exact absurd e.1 o
theorem QE.put {R:List RN} {last:Int} (h:QE R last) {k:Nat} {n:RN} (c:k<R.length) (b:n.id=R[k].id) (f:n.par=R[k].par):QE (R.set k n) last:=by
 obtain ⟨rk,j⟩:=h.up;refine ⟨Qeb h.ids c b,⟨rk,Qo3 j c b f⟩,λm a=>?_,?_⟩
 ·rcases mem_or_eq_of_mem_set a with a|rfl
  ·exact h.top m a
  rw [b];exact h.top _ (getElem_mem c)
 obtain ⟨m,a,e⟩:=h.root;obtain ⟨i,g,rfl⟩:=getElem_of_mem a;by_cases d:i=k
 ·subst d;exact ⟨n,mem_set (by simpa using g) n,by rw [b];exact e.1,by rw [f];exact e.2⟩
 refine ⟨R[i],mem_iff_getElem.2 ⟨i,by simpa using g,?_⟩,e⟩;rw [getElem_set_ne (λx=>d x.symm)]
theorem QE.more {R:List RN} {last:Int} (h:QE R last) {n:RN} (d:last<n.id) (b:n.par=0):QE (R++[n]) n.id:=by
 obtain ⟨rk,c⟩:=h.up;have:=h.last_pos;refine ⟨Qmv h.ids (by omega) (λm a=>by have:=h.top m a;omega),⟨rk,Qn7 c b⟩,λm a=>?_,?_⟩
 ·rcases mem_append.1 a with a|a
  ·have:=h.top m a;omega
  rw [mem_singleton.1 a];omega
 obtain ⟨m,a,e⟩:=h.root;exact ⟨m,mem_append.2 (.inl a),e⟩
theorem Qnn {R:List RN} {last:Int} (h:QE R last) {f k:Nat} {d:Int} (o:ZP R f k) (l:k<R.length) (n:R[k].id≠1):∀ i,(b:i<R.length)->R[i].id=1->Qcc (QF R f k d) i=false:=by
 intro i b e;have p:R[i].par=0:=by obtain ⟨m,a,c,g⟩:=h.root;obtain ⟨j,q,rfl⟩:=getElem_of_mem a;have:=h.ids.inj i j b q (e.trans c.symm);subst this;exact g
 cases r:Qcc (QF R f k d) i with
 | false=>rfl
 | true =>
  obtain ⟨t,s⟩:=Qfq.1 r;obtain ⟨_,m,a⟩:=QcL h.ids f k d o _ s;have c:Qj R i=R[i].id:=by simp [Qj,b]
  have g:Qj R k=R[k].id:=by simp [Qj,l]
  rw [c,g] at a;have u:=h.ids.pos _ (getElem_mem l);cases m with| zero =>have a:R[i].id=R[k].id:=a;exact absurd (a.symm.trans e) n| succ m =>rw [Zp,QcF h.ids b,p,QdT] at a;omega
theorem QE.rem {R:List RN} {last:Int} (h:QE R last) {f k:Nat} {d:Int} (c:ZP R f k) (j:k<R.length) (g:R[k].id≠1):QE (rmP R (QF R f k d)) last:=by
 obtain ⟨rk,l⟩:=h.up;have n:=Qnn h (d:=d) c j g;refine ⟨QmF h.ids,⟨rk,QrD l h.ids c⟩,λm b=>?_,?_⟩
 ·obtain ⟨i,a,_,_,rfl⟩:=(Qgg (Nat.le_refl _)).1 b;exact h.top _ (getElem_mem a)
 obtain ⟨m,b,e⟩:=h.root;obtain ⟨i,a,rfl⟩:=getElem_of_mem b;exact ⟨R[i],(Qgg (Nat.le_refl _)).2 ⟨i,a,a,n i a e.1,rfl⟩,e⟩
def PN.bare (n:PN):RN:={ toPN:=n,ao:=none,an:=0,ac:=0 }
def RN.bare (n:RN):RN:=n.toPN.bare
def JM (R:List RN):List RN:=R.map RN.bare
theorem Qcw (R:List RN):(JM R).length=R.length:=by unfold JM;simp
theorem Qaq {R:List RN} {m:RN}:m ∈ JM R↔∃ n,n ∈ R/\n.bare=m:=by unfold JM;exact mem_map
theorem QjR {R:List RN} {rk:Int->Nat}:Up (JM R) rk↔Up R rk:=by
 constructor
 ·intro h;refine ⟨λn a=>?_,λn a c=>h.rank n.bare (Qaq.2 ⟨n,a,rfl⟩) c⟩;rcases h.par n.bare (Qaq.2 ⟨n,a,rfl⟩) with e|⟨m,b,e⟩
  ·exact .inl e
  obtain ⟨k,d,rfl⟩:=Qaq.1 b;exact .inr ⟨k,d,e⟩
 intro h;refine ⟨λm b=>?_,λm b c=>?_⟩
 ·obtain ⟨n,a,rfl⟩:=Qaq.1 b;rcases h.par n a with e|⟨k,d,e⟩
  ·exact .inl e
  exact .inr ⟨k.bare,Qaq.2 ⟨k,d,rfl⟩,e⟩
 obtain ⟨n,a,rfl⟩:=Qaq.1 b;exact h.rank n a c
theorem QuS {R:List RN} {b:Int}:∀ (f:Nat) (x:Int),ZM R f x b=true->∃ m,Zp R m x=b:=by
 intro f;induction f with
 | zero=>intro x h;simp [ZM] at h
 | succ f ih =>
  intro x h;rw [ZM] at h;by_cases a:x=0
  ·rw [if_pos a] at h;cases h
  rw [if_neg a] at h;by_cases c:x=b
  ·exact ⟨0,c⟩
  rw [if_neg c] at h;obtain ⟨m,e⟩:=ih _ h;exact ⟨m+1,by rw [Zp];unfold upP;rw [if_neg a];exact e⟩
def QbQ (R:List RN) (x a:Int):Prop:=∃ m,Zp R m x=a
theorem QlL {R:List RN} {rk:Int->Nat} (b:Up R rk) (c:Qp R) {x a:Int} (d:a≠0) (f:∃ n,n ∈ R/\n.id=x):ZM R (rk x+1) x a=true↔QbQ R x a:=by
 constructor
 ·exact QuS _ _
 rintro ⟨m,e⟩;cases g:ZM R (rk x+1) x a with| true=>rfl| false=>exact absurd e (QkX b c d _ x (.inr f) (.inr (by omega)) g m)
theorem Qi3 {R:List RN} {rk:Int->Nat} (b:Up R rk) (c:Qp R) {x a:Int} (d:a≠0) (f:∃ n,n ∈ R/\n.id=x):ZM R (rk x+1) x a=false↔¬ QbQ R x a:=by rw [<- QlL b c d f];simp
theorem Qf8 {R:List RN} {i:Nat} (h:i<(JM R).length):(JM R)[i]=(R[i]'(by rw [Qcw] at h;exact h)).bare:=getElem_map (l:=R) RN.bare
theorem QiT {R:List RN}:Qp (JM R)↔Qp R:=by
 constructor
 ·intro h;refine ⟨λn c=>h.pos n.bare (Qaq.2 ⟨n,c,rfl⟩),λi j a b e=>h.inj i j (by rw [Qcw];exact a) (by rw [Qcw];exact b) ?_⟩;rw [Qf8,Qf8];exact e
 intro h;refine ⟨λm d=>?_,λi j a b e=>h.inj i j (by rw [Qcw] at a;exact a) (by rw [Qcw] at b;exact b) ?_⟩
 ·obtain ⟨n,c,rfl⟩:=Qaq.1 d;exact h.pos n c
 rw [Qf8,Qf8] at e;exact e
def QbV (c:Int) (n:Nat):Nat:=((if c<0 then -(c+1) else c) % (n:Int)).toNat
theorem QlX (c:Int) {n:Nat} (a:0<n):QbV c n<n:=by unfold QbV;have b:=Int.emod_lt_of_pos (if c<0 then -(c+1) else c) (show (0:Int)<(n:Int) by omega);have d:=Int.emod_nonneg (if c<0 then -(c+1) else c) (show (n:Int)≠0 by omega);omega
theorem QjY (c:Int) (n:Nat) (w:World) (k:0<n) (f:n<=1099511627776) (g:-9223372036854775808<=c) (i:c<=9223372036854775807) : Xl 8 #[Xi c,Xi n] w λe w'=>e=.returned (Xi (QbV c n:Nat))/\w'=w:=by
 have j:(1:Int)<=(n:Int):=by omega
 have b:∀ x:Int,0<=x->(((x % (n:Int)).toNat:Nat):Int)=x % (n:Int):=λx l=>Int.toNat_of_nonneg (Int.emod_nonneg x (by omega));have d:=Qa b;clear b;by_cases h:c<0
 ·have a:Hid (((QbV c n:Nat):Int)=-(c+1) % (n:Int)):=Qa (by unfold QbV;rw [if_pos h];exact d.out _ (by omega));go_enter Tryz.func8,Tryz.ntmps8;go_wp2;go_ret;refine ⟨?_,rfl⟩;have e:-((c+1).tmod (n:Int))=-(c+1) % (n:Int):=by rw [<- Int.neg_tmod,Int.tmod_eq_emod_of_nonneg (by omega)]
  rw [a.out,<- e];rfl
 have a:Hid (((QbV c n:Nat):Int)=c % (n:Int)):=Qa (by unfold QbV;rw [if_neg h];exact d.out _ (by omega));have m:0<=c:=by omega
 go_enter Tryz.func8,Tryz.ntmps8;go_wp2;go_ret;exact ⟨by rw [a.out];rfl,rfl⟩
end Go.Proofs.YtobgcaemnpkbmaaGreatDoor
