import Derived.Test.YtobgcaemnpkbmaaGreatY04
namespace Go.Proofs.YtobgcaemnpkbmaaGreat
set_option maxRecDepth 100000
set_option maxHeartbeats 8000000
open Go.RowKit List
variable {nm:ByteArray} {bf d id last pa:Int} {rk:Int->Nat} {l:List (ByteArray × ByteArray)} {W:List (Nat × Int)} {R:List RN} {a f fr g i k n r s:Nat}
structure Qx (R:List RN):Prop where
 pos:∀ n,n ∈ R->0<n.id
 inj:∀ i j,(hi:i<R.length)->(hj:j<R.length)->R[i].id=R[j].id->i=j
theorem QiM:i ∈ QaD R id k↔i<k/\QaM R i=id:=by unfold QaD;rw [mem_filter,mem_range];simp
theorem Qcy (a:i ∈ Qn R id):i<R.length/\QaM R i=id/\id≠0:=by
 unfold Qn at a;split at a
 ·simp at a
 next b=>exact ⟨(QiM.1 a).1,(QiM.1 a).2,b⟩
theorem Qfp (d:Up R rk) (g:i ∈ Qn R (Qg R a)):rk (Qg R a)<rk (Qg R i):=by obtain ⟨b,c,f⟩:=Qcy g;rw [QV b];rw [Qbs b] at c;have:=d.rank R[i] (Xa0 b) (by rw [c];exact f);rwa [c] at this
def above (R:List RN) (rk:Int->Nat) (r:Nat):Nat:=R.countP λn=>decide (r<rk n.id)
theorem Qi9 (g:r<s) {n:RN} (b:n ∈ R) (i:rk n.id=s):above R rk s<above R rk r:=by
 unfold above;induction R with
 | nil=>simp at b
 | cons x R ih =>
  rw [countP_cons,countP_cons];have h:R.countP (λn=>decide (s<rk n.id))<=R.countP (λn=>decide (r<rk n.id)):=by apply countP_mono_left;intro j _ d;simp at d ⊢;omega
  rcases mem_cons.1 b with rfl|b
  ·have a:decide (s<rk n.id)=false:=by simp;omega
   have c:decide (r<rk n.id)=true:=by simp;omega
   rw [a,c];simp;omega
  have:=ih b;by_cases f:s<rk x.id
  ·have a:decide (s<rk x.id)=true:=by simp [f]
   have c:decide (r<rk x.id)=true:=by simp;omega
   rw [a,c];simp;omega
  have a:decide (s<rk x.id)=false:=by simp;omega
  rw [a];simp;omega
theorem QpP:∀ {f a:Nat},ZF R f a->ZF R (f+1) a:=by
 intro f;induction f with
 | zero=>intro a b;exact absurd b (by simp [ZF])
 | succ f ih=>intro a b;exact ⟨b.1,λk c=>ih (b.2 k c)⟩
theorem Qug (c:ZF R f a) (b:f<=g):ZF R g a:=by induction b with| refl=>exact c| step _ ih=>exact QpP ih
theorem QsZ (g:Up R rk):∀ (m a:Nat),a<R.length->above R rk (rk (Qg R a))<=m->ZF R (m+1) a:=by
 intro m;induction m with
 | zero =>intro a d h;refine ⟨d,λk c=>?_⟩;have f:=Qfp g c;have b:=(Qcy c).1;have:=Qi9 (R:=R) (rk:=rk) f (Xa0 b) (by rw [QV b]);omega
 | succ m ih =>intro a d h;refine ⟨d,λk c=>?_⟩;have f:=Qfp g c;have b:=(Qcy c).1;have:=Qi9 (R:=R) (rk:=rk) f (Xa0 b) (by rw [QV b]);exact ih k b (by omega)
theorem Qae (c:Up R rk) (b:a<R.length):ZF R R.length a:=by
 have d:above R rk (rk (Qg R a))<R.length:=by
  have f:=Qi9 (R:=R) (rk:=λx=>rk x+1) (r:=0) (s:=rk (Qg R a)+1) (by omega) (Xa0 b) (by rw [QV b]);have g:above R (λx=>rk x+1) (rk (Qg R a)+1)=above R rk (rk (Qg R a)):=by
   unfold above;congr 1
   funext n;simp
  have h:above R (λx=>rk x+1) 0<=R.length:=countP_le_length;omega
 exact Qug (QsZ c (R.length-1) a b (by omega)) (by omega)
def upP (R:List RN) (x:Int):Int:=if x=0 then 0 else Qb9 R x
def ZC (R:List RN):Nat->Int->Int
 | 0,x=>x
 | m+1,x=>ZC R m (upP R x)
theorem Qfq (R:List RN) (m:Nat):ZC R m 0=0:=by
 induction m with
 | zero=>rfl
 | succ m ih =>
  rw [ZC];have:upP R 0=0:=by unfold upP;rw [if_pos rfl]
  rw [this];exact ih
theorem Qj6 (R:List RN) (m k:Nat) (x:Int):ZC R (m+k) x=ZC R k (ZC R m x):=by induction m generalizing x with| zero=>rw [Nat.zero_add];rfl| succ m ih=>rw [Nat.succ_add,ZC,ZC,ih]
theorem Qgx (b:Qx R) (a:i<R.length):Qk R R[i].id=(i:Int) := Qnw a rfl (λj c d e=>by have:=b.inj j i c a e;omega)
theorem QdI (b:Qx R) (a:i<R.length):upP R R[i].id=R[i].par:=by have c:=b.pos R[i] (Xa0 a);unfold upP Qb9;rw [if_neg (by omega),Qgx b a];exact Qbs a
theorem QlV (f:Up R rk) (g:Qx R):∀ (m:Nat) (x:Int),(∃ n,n ∈ R/\n.id=x)->ZC R m x≠0->rk (ZC R m x)<=rk x/\∃ n,n ∈ R/\n.id=ZC R m x:=by
 intro m;induction m with
 | zero=>intro x b _;exact ⟨X0,b⟩
 | succ m ih =>
  intro x b a;rw [ZC] at a ⊢;obtain ⟨n,h,rfl⟩:=b;obtain ⟨i,c,rfl⟩:=Xa3 h;rw [QdI g c] at a ⊢;by_cases d:R[i].par=0
  ·rw [d,Qfq] at a;exact absurd rfl a
  have l:=f.rank R[i] (Xa0 c) d;have j:=(f.par R[i] (Xa0 c)).resolve_left d;have k:=ih R[i].par j a;exact ⟨by omega,k.2⟩
theorem Qc0 (j:Qx R):∀ (f a:Nat) (d:Int),ZF R f a->∀ x,x ∈ Qo R f a d->x.1<R.length/\∃ m,ZC R m (Qg R x.1)=Qg R a:=by
 intro f;induction f with
 | zero=>intro a d c;exact absurd c (by simp [ZF])
 | succ f ih =>
  intro a d c x b;rw [Qo] at b;rcases mem_cons.1 b with rfl|b
  ·exact ⟨c.1,0,rfl⟩
  obtain ⟨k,h,b⟩:=Xa9.1 b;obtain ⟨l,m,n⟩:=ih k (d+1) (c.2 k h) x b;obtain ⟨g,i,_⟩:=Qcy h;refine ⟨l,m+1,?_⟩;rw [Qj6,n];show upP R (Qg R k)=_;rw [QV g,QdI j g,<- Qbs g];exact i
theorem Qw4 {α k:Type} {l:List α} {g:α->List k} (m:l.Nodup) (i:∀ a,a ∈ l->(g a).Nodup) (j:∀ a b,a ∈ l->b ∈ l->a≠b->∀ x,x ∈ g a->x ∉ g b):(l.flatMap g).Nodup:=by induction l with| nil=>simp| cons a l ih =>rw [flatMap_cons,nodup_append];have h:=nodup_cons.1 m;refine ⟨i a (by simp),ih h.2 (λb d=>i b (by simp [d])) (λb c d n=>j b c (by simp [d]) (by simp [n])),λx o p f e=>?_⟩;subst e;obtain ⟨b,d,f⟩:=Xa9.1 f;exact j a b (by simp) (by simp [d]) (λe=>h.1 (e▸d)) x o f
theorem QvN (R:List RN) (id:Int):(Qn R id).Nodup:=by
 unfold Qn QaD;split
 ·simp
 exact List.Pairwise.filter _ nodup_range
theorem Qjs (t:Up R rk) (n:Qx R):∀ (f a:Nat) (d:Int),ZF R f a->((Qo R f a d).map (·.1)).Nodup:=by
 intro f;induction f with
 | zero=>intro a d l;exact absurd l (by simp [ZF])
 | succ f ih =>
  intro a d l;rw [Qo,map_cons,map_flatMap,nodup_cons];have y:∀ k,k ∈ Qn R (Qg R a)->∀ x,x ∈ (Qo R f k (d+1)).map (·.1)->x<R.length/\∃ m,ZC R m (Qg R x)=Qg R k:=by intro k h x o;obtain ⟨U,M,rfl⟩:=Xa5.1 o;exact Qc0 n f k (d+1) (l.2 k h) U M
  have F:∀ i,i<R.length->Qg R i≠0:=λi H=>by rw [QV H];have:=n.pos R[i] (Xa0 H);omega
  refine ⟨λo=>?_,Qw4 (QvN _ _) (λk h=>ih k (d+1) (l.2 k h)) (λB C z A G x K L=>?_)⟩
  ·obtain ⟨k,h,o⟩:=Xa9.1 o;obtain ⟨D,m,I⟩:=y k h a o;have N:=Qfp t h;have E:=QlV t n m (Qg R a) ⟨R[a],Xa0 D,(QV D).symm⟩ (by rw [I];exact F k (Qcy h).1);rw [I] at E;omega
  obtain ⟨D,b,u⟩:=y B z x K;obtain ⟨_,c,v⟩:=y C A x L;have key:∀ (p q:Nat) (b c:Nat),p ∈ Qn R (Qg R a)->q ∈ Qn R (Qg R a)->ZC R b (Qg R x)=Qg R p->ZC R c (Qg R x)=Qg R q->b<=c->p=q:=by
   intro p q b c O J u v s;obtain ⟨r,P,_⟩:=Qcy O;obtain ⟨q1,_,_⟩:=Qcy J;have g:ZC R (c-b) (Qg R p)=Qg R q:=by rw [<- u,<- Qj6,show b+(c-b)=c by omega];exact v
   by_cases S:c-b=0
   ·rw [S] at g;have g:Qg R p=Qg R q:=g;rw [QV r,QV q1] at g;exact n.inj p q r q1 g
   obtain ⟨j,T⟩:∃ j,c-b=j+1:=⟨c-b-1,by omega⟩;rw [T,ZC,QV r,QdI n r,<- Qbs r,P] at g;have N:=Qfp t J;have E:=QlV t n j (Qg R a) ⟨R[a]'l.1,Xa0 l.1,(QV l.1).symm⟩ (by rw [g];exact F q q1);rw [g] at E;omega
  rcases Nat.le_total b c with s|s
  ·exact G (key B C b c z A u v s)
  exact G (key C B c b A z v u s).symm
theorem QpQ {l:List Nat} (d:l.Nodup) (c:∀ x,x ∈ l->x<n):l.length<=n:=by
 induction n generalizing l with
 | zero =>cases l with| nil=>exact X0| cons a l=>exact absurd (c a (by simp)) (Xb7 _)
 | succ n ih =>
  by_cases f:n ∈ l
  ·have j:=ih (d.erase n) (λx b=>by
    have g:=mem_of_mem_erase b;have h:=c x g;have i:x≠n:=λe=>by subst e;exact d.not_mem_erase b
    omega)
   have k:=length_erase_of_mem f;omega
  have j:=ih d (λx b=>by have h:=c x b;have i:x≠n:=λe=>f (e▸b);omega);omega
theorem Qgn (g:Up R rk) (b:Qx R) (c:ZF R f a):(Qo R f a d).length<=R.length:=by have h:=QpQ (Qjs g b f a d c) (n:=R.length) (λx i=>by obtain ⟨k,j,rfl⟩:=Xa5.1 i;exact (Qc0 b f a d c k j).1);simpa using h
theorem Qx.of_nodup (f:∀ n,n ∈ R->0<n.id) (g:(R.map (·.id)).Nodup):Qx R:=by
 refine ⟨f,λi j c d e=>?_⟩;have b:=Xb1.1 g;rcases Nat.lt_trichotomy i j with a|a|a
 ·exact absurd (by rw [getElem_map,getElem_map];exact e) (b i j (by simpa using c) (by simpa using d) a)
 ·exact a
 exact absurd (by rw [getElem_map,getElem_map];exact e.symm) (b j i (by simpa using d) (by simpa using c) a)
theorem Qx.nodup (c:Qx R):(R.map (·.id)).Nodup:=by refine Xb1.2 λi j a b d e=>?_;have:=c.inj i j (by simpa using a) (by simpa using b) (by simpa using e);omega
def QbQ (R:List RN) (fr:Nat):Nat->List RN
 | 0=>[]
 | k+1=>QbQ R fr k++(if k=fr then [] else (R.drop k).take 1)
theorem Qqh:∀ k,k<=R.length->(R.take k).Perm (QbQ R fr k++(if a:fr<k/\fr<R.length then [R[fr]'a.2] else [])):=by
 intro k;induction k with
 | zero=>intro _;simp [QbQ]
 | succ k ih =>
  intro b;have ih:=ih (by omega);rw [take_succ_eq_append_getElem (by omega),QbQ];by_cases a:k=fr
  ·subst a;rw [if_pos rfl,dif_pos ⟨by omega,by omega⟩];rw [dif_neg (by omega),append_nil] at ih;rw [append_nil];exact ih.append_right [R[k]]
  rw [if_neg a,Qca (by omega)];by_cases c:fr<k
  ·rw [dif_pos ⟨by omega,by omega⟩] at ih;rw [dif_pos ⟨by omega,by omega⟩];refine (ih.append_right [R[k]]).trans ?_;rw [append_assoc,append_assoc];exact List.Perm.append_left _ (perm_append_comm)
  rw [dif_neg (by omega),append_nil] at ih;rw [dif_neg (by omega),append_nil];exact ih.append_right [R[k]]
theorem Qvf {n:RN} (h:Qx R):∀ k,k<=R.length->(Zh R n fr bf k).Perm (QbQ R fr k++(if bf≠0/\∃ i,i<k/\Qg R i=bf then [n] else [])):=by
 intro k;induction k with
 | zero=>intro _;simp [Zh,QbQ]
 | succ k ih =>
  intro l;have ih:=ih (by omega);rw [Zh,QbQ];by_cases a:bf≠0/\Qg R k=bf
  ·have f:¬ (bf≠0/\∃ i,i<k/\Qg R i=bf):=λ⟨_,i,c,e⟩=>by have:=h.inj i k (by omega) (by omega) (by rw [<- QV (by omega),<- QV (by omega),e,a.2]);omega
   rw [if_neg f,append_nil] at ih;have d:bf≠0/\∃ i,i<k+1/\Qg R i=bf:=⟨a.1,k,by omega,a.2⟩;rw [if_pos a,if_pos d,append_assoc,append_assoc];exact ih.append perm_append_comm
  rw [if_neg a,append_nil];have j:(bf≠0/\∃ i,i<k+1/\Qg R i=bf)↔(bf≠0/\∃ i,i<k/\Qg R i=bf):=by
   constructor
   ·rintro ⟨b,i,c,e⟩;refine ⟨b,i,?_,e⟩;by_cases g:i=k
    ·subst g;exact absurd ⟨b,e⟩ a
    omega
   rintro ⟨b,i,c,e⟩;exact ⟨b,i,by omega,e⟩
  simp only [j];refine (ih.append_right _).trans ?_;rw [append_assoc,append_assoc];exact List.Perm.append_left _ perm_append_comm
theorem QdK {n:RN} (f:Qx R) (c:fr<R.length) (g:bf=0 \/ ∃ i,i<R.length/\Qg R i=bf) : (QM R n fr bf).Perm (QbQ R fr R.length++[n])/\R.Perm (QbQ R fr R.length++[R[fr]]):=by
 have d:=Qqh (R:=R) (fr:=fr) R.length X0;rw [take_length,dif_pos ⟨c,c⟩] at d;refine ⟨?_,d⟩;have b:=Qvf (n:=n) (fr:=fr) (bf:=bf) f R.length X0;unfold QM;by_cases a:bf=0
 ·rw [if_neg (λh=>h.1 a),append_nil] at b;rw [if_pos a];exact b.append_right [n]
 rw [if_pos ⟨a,g.resolve_left a⟩] at b;rw [if_neg a,append_nil];exact b
theorem Qhb {n:RN} (f:Qx R) (d:fr<R.length) (g:bf=0 \/ ∃ i,i<R.length/\Qg R i=bf):(QM R n fr bf).length=R.length:=by have c:=QdK (n:=n) f d g;have a:=c.1.length_eq;have b:=c.2.length_eq;rw [length_append] at a b;simp at a b;omega
theorem Qdn {n:RN} (d:Qx R) (c:fr<R.length) (f:bf=0 \/ ∃ i,i<R.length/\Qg R i=bf):∀ m,m ∈ QM R n fr bf->m ∈ R \/ m=n:=by
 intro m a;have b:=QdK (n:=n) d c f;rcases Xa4.1 (b.1.mem_iff.1 a) with a|a
 ·exact .inl (b.2.mem_iff.2 (Xa4.2 (.inl a)))
 exact .inr (Xa2.1 a)
theorem Qin {n:RN} (a:Qx R) (b:fr<R.length) (g:bf=0 \/ ∃ i,i<R.length/\Qg R i=bf) (h:n.id=R[fr].id):Qx (QM R n fr bf):=by
 have j:=QdK (n:=n) a b g;refine Qx.of_nodup (λm c=>?_) ?_
 ·rcases Qdn a b g m c with c|rfl
  ·exact a.pos m c
  rw [h];exact a.pos _ (Xa0 b)
 have d:=(j.1.map (·.id)).nodup_iff;have f:=(j.2.map (·.id)).nodup_iff;rw [map_append] at d f;simp only [map_cons,map_nil,h] at d f;exact d.2 (f.1 a.nodup)
theorem Qpd:∀ {k:Nat} {m:RN},k<=R.length->m ∈ QbQ R fr k->∃ i,∃ b:i<R.length,i≠fr/\m=R[i]:=by
 intro k;induction k with
 | zero=>intro m _ a;simp [QbQ] at a
 | succ k ih =>
  intro m c a;rw [QbQ] at a;rcases Xa4.1 a with a|a
  ·exact ih (by omega) a
  by_cases e:k=fr
  ·rw [if_pos e] at a;simp at a
  rw [if_neg e,Qca (by omega)] at a;exact ⟨k,by omega,e,Xa2.1 a⟩
theorem Qkh (h:Up R rk) (j:Qx R) {other:Int} (k:other≠0):∀ (f:Nat) (x:Int),(x=0 \/ ∃ n,n ∈ R/\n.id=x)->(x=0 \/ rk x<f)->Zs R f x other=false->∀ m,ZC R m x≠other:=by
 intro f;induction f with
 | zero =>
  intro x _ c _ m;rcases c with rfl|c
  ·rw [Qfq];exact λe=>k e.symm
  omega
 | succ f ih =>
  intro x o c a m;by_cases b:x=0
  ·subst b;rw [Qfq];exact λe=>k e.symm
  rw [Zs,if_neg b] at a;by_cases g:x=other
  ·rw [if_pos g] at a;cases a
  rw [if_neg g] at a;cases m with
  | zero=>exact g
  | succ m =>
   rw [ZC];obtain ⟨n,p,rfl⟩:=o.resolve_left b;obtain ⟨i,d,rfl⟩:=Xa3 p;have q:Qb9 R R[i].id=R[i].par:=by have:=QdI j d;unfold upP at this;rwa [if_neg b] at this
   rw [QdI j d];rw [q] at a;refine ih R[i].par (h.par _ (Xa0 d)) ?_ a m;by_cases l:R[i].par=0
   ·exact .inl l
   right;have:=h.rank R[i] (Xa0 d) l;have:=c.resolve_left b;omega
theorem QtC (l:Up R rk) (f:Qx R) (h:fr<R.length) (t:bf=0 \/ ∃ i,i<R.length/\Qg R i=bf) (p:∃ n,n ∈ R/\n.id=pa) (q:∀ m,ZC R m pa≠R[fr].id) : ∃ r,Up (QM R { R[fr] with par:=pa } fr bf) r:=by
 classical
 have d:=QdK (n:={ R[fr] with par:=pa }) f h t;have k:∀ x,(∃ n,n ∈ R/\n.id=x)->∃ n,n ∈ QM R { R[fr] with par:=pa } fr bf/\n.id=x:=by
  rintro x ⟨n,u,rfl⟩;rcases Xa4.1 (d.2.mem_iff.1 u) with b|b
  ·exact ⟨n,d.1.mem_iff.2 (Xa4.2 (.inl b)),rfl⟩
  have:=Xa2.1 b;subst this;exact ⟨{ R[fr] with par:=pa },d.1.mem_iff.2 (Xa4.2 (.inr (by simp))),rfl⟩
 have g:∀ m,m ∈ QM R { R[fr] with par:=pa } fr bf->(∃ i,∃ a:i<R.length,i≠fr/\m=R[i]) \/ m={ R[fr] with par:=pa }:=by
  intro m c;rcases Xa4.1 (d.1.mem_iff.1 c) with b|b
  ·exact .inl (Qpd X0 b)
  exact .inr (Xa2.1 b)
 refine ⟨λx=>if ∃ j,ZC R j x=R[fr].id then rk x+rk pa+1 else rk x,λm c=>?_,λm c v=>?_⟩
 ·rcases g m c with ⟨i,a,_,rfl⟩|rfl
  ·exact (l.par _ (Xa0 a)).imp id (k _)
  exact .inr (k pa p)
 rcases g m c with ⟨i,a,s,rfl⟩|rfl
 ·have A:=l.rank _ (Xa0 a) v;have o:(∃ j,ZC R j R[i].par=R[fr].id)↔∃ j,ZC R j R[i].id=R[fr].id:=by
   constructor
   ·rintro ⟨j,e⟩;exact ⟨j+1,by rw [ZC,QdI f a];exact e⟩
   rintro ⟨j,e⟩;cases j with| zero =>have e:R[i].id=R[fr].id:=e;exact absurd (f.inj i fr a h e) s| succ j=>exact ⟨j,by rw [ZC,QdI f a] at e;exact e⟩
  simp only [o];split<;>omega
 have y:¬ ∃ j,ZC R j pa=R[fr].id:=λ⟨j,e⟩=>q j e;have z:∃ j,ZC R j R[fr].id=R[fr].id:=⟨0,rfl⟩;show (if ∃ j,ZC R j pa=R[fr].id then _ else _)<(if ∃ j,ZC R j R[fr].id=R[fr].id then _ else _);rw [if_neg y,if_pos z];show rk pa<rk R[fr].id+rk pa+1;omega
theorem QsI:∀ (f a:Nat) (d:Int),ZF R f a->∀ x,x ∈ Qo R f a d->∀ i,i ∈ Qn R (Qg R x.1)->∃ g,(i,g) ∈ Qo R f a d:=by
 intro f;induction f with
 | zero=>intro a d c;exact absurd c (by simp [ZF])
 | succ f ih =>
  intro a d c x b i h;rw [Qo] at b ⊢;rcases mem_cons.1 b with rfl|b
  ·refine ⟨d+1,mem_cons.2 (.inr (Xa9.2 ⟨i,h,?_⟩))⟩;have:=c.2 i h;cases f with| zero=>exact absurd this (by simp [ZF])| succ f=>rw [Qo];simp
  obtain ⟨k,j,b⟩:=Xa9.1 b;obtain ⟨g,l⟩:=ih k (d+1) (c.2 k j) x b i h;exact ⟨g,mem_cons.2 (.inr (Xa9.2 ⟨k,j,l⟩))⟩
theorem Qgw:QaL W i=true↔∃ d,(i,d) ∈ W:=by
 unfold QaL;rw [any_eq_true];constructor
 ·rintro ⟨⟨a,d⟩,b,e⟩;have e:a=i:=by simpa using e
  subst e;exact ⟨d,b⟩
 rintro ⟨d,b⟩;exact ⟨(i,d),b,by simp⟩
theorem QgS:∀ {k:Nat} {m:RN},k<=R.length->(m ∈ Jj R W k↔∃ i,∃ a:i<R.length,i<k/\QaL W i=false/\m=R[i]):=by
 intro k;induction k with
 | zero=>intro m _;simp [Jj]
 | succ k ih =>
  intro m j;rw [Jj,mem_append,ih (by omega)];constructor
  ·rintro (⟨i,a,h,b,c⟩|d)
   ·exact ⟨i,a,by omega,b,c⟩
   cases f:QaL W k with| true=>rw [f] at d;simp at d| false =>rw [f,if_neg (by simp),Qca (by omega)] at d;exact ⟨k,by omega,by omega,f,Xa2.1 d⟩
  rintro ⟨i,a,h,b,c⟩;by_cases g:i=k
  ·subst g;right;rw [b,if_neg (by simp),Qca a];exact Xa2.2 c
  exact .inl ⟨i,a,by omega,b,c⟩
theorem Qpz (R:List RN) (b:List (Nat × Int)):∀ k,k<=R.length->(Jj R b k).Sublist (R.take k):=by
 intro k;induction k with
 | zero=>intro _;simp [Jj]
 | succ k ih =>
  intro c;have a:k<R.length:=by omega
  rw [Jj,take_succ_eq_append_getElem a];refine (ih (by omega)).append ?_;split
  ·exact nil_sublist _
  rw [Qca a];exact List.Sublist.refl _
theorem Qnd (b:Qx R):Qx (Jl R W):=by have a:=Qpz R W R.length X0;rw [take_length] at a;exact Qx.of_nodup (λn c=>b.pos n (a.subset c)) ((a.map (·.id)).nodup b.nodup)
theorem Qtv (l:Up R rk) (_hI:Qx R) (x:ZF R f a):Up (Jl R (Qo R f a d)) rk:=by
 have k:∀ m,m ∈ Jl R (Qo R f a d)->∃ i,∃ b:i<R.length,QaL (Qo R f a d) i=false/\m=R[i]:=λm c=>by obtain ⟨i,b,_,r,s⟩:=(QgS X0).1 c;exact ⟨i,b,r,s⟩
 refine ⟨λm c=>?_,λm c g=>?_⟩
 ·obtain ⟨i,b,t,rfl⟩:=k m c;by_cases g:R[i].par=0
  ·exact .inl g
  obtain ⟨n,u,e⟩:=(l.par _ (Xa0 b)).resolve_left g;obtain ⟨j,h,rfl⟩:=Xa3 u;refine .inr ⟨R[j],(QgS X0).2 ⟨j,h,h,?_,rfl⟩,e⟩;cases o:QaL (Qo R f a d) j with
  | false=>rfl
  | true =>
   obtain ⟨v,p⟩:=Qgw.1 o;have q:i ∈ Qn R (Qg R j):=by unfold Qn;rw [QV h,e,if_neg g];exact QiM.2 ⟨b,Qbs b⟩
   have:=Qgw.2 (QsI f a d x (j,v) p i q);rw [t] at this;cases this
 obtain ⟨i,b,_,rfl⟩:=k m c;exact l.rank _ (Xa0 b) g
theorem QeN {n:RN} (a:Qx R) (b:k<R.length) (d:n.id=R[k].id):Qx (R.set k n):=by
 refine Qx.of_nodup (λm f=>?_) ?_
 ·rcases Xb2 f with g|rfl
  ·exact a.pos m g
  rw [d];exact a.pos _ (Xa0 b)
 have e:(R.set k n).map (·.id)=R.map (·.id):=by
  rw [map_set];apply ext_getElem?;intro j;by_cases c:k=j
  ·subst c;rw [getElem?_set_self (by simpa using b),getElem?_map,getElem?_eq_getElem b,d];rfl
  rw [getElem?_set_ne c]
 rw [e];exact a.nodup
theorem Qtc {n:RN} (b:Up R rk) (c:k<R.length) (j:n.id=R[k].id) (l:n.par=R[k].par):Up (R.set k n) rk:=by
 have g:∀ x,(∃ m,m ∈ R/\m.id=x)->∃ m,m ∈ R.set k n/\m.id=x:=by
  rintro x ⟨m,a,rfl⟩;obtain ⟨i,o,rfl⟩:=Xa3 a;by_cases h:k=i
  ·subst h;exact ⟨n,mem_set c n,j⟩
  refine ⟨R[i],?_,rfl⟩;have:(R.set k n)[i]'(by simpa using o)=R[i]:=getElem_set_ne h _;rw [<- this];exact Xa0 _
 refine ⟨λm a=>?_,λm a d=>?_⟩
 ·rcases Xb2 a with f|rfl
  ·exact (b.par m f).imp id (g _)
  rw [l];exact (b.par _ (Xa0 c)).imp id (g _)
 rcases Xb2 a with f|rfl
 ·exact b.rank m f d
 rw [l] at d ⊢;rw [j];exact b.rank _ (Xa0 c) d
theorem QjJ {n:RN} (c:Qx R) (d:0<n.id) (f:∀ m,m ∈ R->m.id<n.id):Qx (R++[n]):=by
 refine Qx.of_nodup (λm a=>?_) ?_
 ·rcases Xa4.1 a with b|b
  ·exact c.pos m b
  rw [mem_singleton.1 b];exact d
 rw [map_append,nodup_append];refine ⟨c.nodup,by simp,λx g i h e=>?_⟩;obtain ⟨m,a,rfl⟩:=Xa5.1 g;simp at h;have:=f m a;omega
theorem QqL {n:RN} (d:Up R rk) (f:n.par=0):Up (R++[n]) rk:=by
 refine ⟨λm b=>?_,λm b c=>?_⟩
 ·rcases Xa4.1 b with a|a
  ·exact (d.par m a).imp id (λ⟨x,g,e⟩=>⟨x,Xa4.2 (.inl g),e⟩)
  rw [mem_singleton.1 a];exact .inl f
 rcases Xa4.1 b with a|a
 ·exact d.rank m a c
 rw [mem_singleton.1 a] at c;exact absurd f c
theorem Qs4 (l:List (ByteArray × ByteArray)) (nm vl:ByteArray):∀ k,k<=l.length->(Zy l nm vl k).1.length=(QbI l nm k).length+(if (Zy l nm vl k).2=true then 1 else 0):=by
 intro k;induction k with
 | zero=>intro _;simp [Zy,QbI]
 | succ k ih =>
  intro f;have a:k<l.length:=by omega
  have ih:=ih (by omega);have c:Qa1 l k=l[k]:=by simp [Qa1,a]
  rw [Zy];simp only [c]
  cases d:(Zy l nm vl k).2<;>rw [d] at ih<;>cases g:Op.bytesLess l[k].1.toList nm.toList<;>cases b:ZL l[k].1 nm <;>
   first
   | rw [QlL a b];simp at ih ⊢;omega
   | rw [Qk3 a b];simp at ih ⊢;omega
theorem Qwt (l:List (ByteArray × ByteArray)) (nm vl:ByteArray):(QQ l nm vl).length=(QI l nm).length+1:=by have a:=Qs4 l nm vl l.length X0;rw [QjY] at a;unfold QQ;cases b:(Zy l nm vl l.length).2<;>rw [b] at a<;>simp at a ⊢<;>omega
theorem Qnc (l:List (ByteArray × ByteArray)) (nm vl:ByteArray):∀ k,k<=l.length->∀ x,x ∈ (Zy l nm vl k).1->x ∈ l \/ x=(nm,vl):=by
 intro k;induction k with
 | zero=>intro _ x a;simp [Zy] at a
 | succ k ih =>
  intro i x a;have d:k<l.length:=by omega
  have ih:=ih (by omega) x;have g:Qa1 l k=l[k]:=by simp [Qa1,d]
  rw [Zy] at a;simp only [g] at a;have h:l[k] ∈ l:=Xa0 d;have f:∀ b,b ∈ (if (Zy l nm vl k).2=false/\Op.bytesLess l[k].1.toList nm.toList=false then (Zy l nm vl k).1++[(nm,vl)] else (Zy l nm vl k).1)->b ∈ (Zy l nm vl k).1 \/ b=(nm,vl):=by
   intro b c;split at c
   ·rcases Xa4.1 c with a|a
    ·exact .inl a
    exact .inr (Xa2.1 a)
   exact .inl c
  split at a
  ·rcases f x a with a|a
   ·exact ih a
   exact .inr a
  rcases Xa4.1 a with a|a
  ·rcases f x a with a|a
   ·exact ih a
   exact .inr a
  exact .inl (by rw [mem_singleton.1 a];exact h)
theorem Qgu {vl:ByteArray} {x:ByteArray × ByteArray} (a:x ∈ QQ l nm vl):x ∈ l \/ x=(nm,vl):=by
 unfold QQ at a;split at a
 ·exact Qnc l nm vl _ X0 x a
 rcases Xa4.1 a with a|a
 ·exact Qnc l nm vl _ X0 x a
 exact .inr (Xa2.1 a)
theorem QnG {x:ByteArray × ByteArray} (a:x ∈ QI l nm):x ∈ l:=(Xa7.1 a).1
theorem Qul (l:List (ByteArray × ByteArray)) (nm:ByteArray):(QI l nm).length<=l.length:=length_filter_le _ _
theorem Qnj {vl:ByteArray} (a:l.length<=5) (b:(QI l nm).length<l.length \/ l.length<5):(QQ l nm vl).length<=5:=by rw [Qwt];have:=Qul l nm;omega
structure Qw (R:List RN) (last:Int):Prop where
 ids:Qx R
 up:∃ rk,Up R rk
 top:∀ n,n ∈ R->n.id<=last
 root:∃ n,n ∈ R/\n.id=1/\n.par=0
theorem Qw.last_pos (a:Qw R last):1<=last:=by obtain ⟨n,b,e,_⟩:=a.root;have:=a.top n b;omega
theorem Qw.ins (a:Qw R last) (j:Up R rk) (b:k<R.length) (p:R[k].id≠1) (d:bf=0 \/ ∃ i,i<R.length/\Qg R i=bf) (h:∃ n,n ∈ R/\n.id=pa) (m:Zs R (rk pa+1) pa R[k].id=false) : Qw (QM R { R[k] with par:=pa } k bf) last:=by
 have q:=a.ids.pos _ (Xa0 b);have o:=Qkh j a.ids (other:=R[k].id) (by omega) (rk pa+1) pa (.inr h) (.inr (by omega)) m;have l:=Qdn (n:={ R[k] with par:=pa }) a.ids b d;have g:=QdK (n:={ R[k] with par:=pa }) a.ids b d;refine ⟨Qin a.ids b d rfl,QtC j a.ids b d h o,λn c=>?_,?_⟩
 ·rcases l n c with c|rfl
  ·exact a.top n c
  exact a.top R[k] (Xa0 b)
 obtain ⟨n,c,e⟩:=a.root;rcases Xa4.1 (g.2.mem_iff.1 c) with f|f
 ·exact ⟨n,g.1.mem_iff.2 (Xa4.2 (.inl f)),e⟩
 have:=Xa2.1 f;subst this;exact absurd e.1 p
theorem Qw.put (b:Qw R last) {n:RN} (d:k<R.length) (c:n.id=R[k].id) (g:n.par=R[k].par):Qw (R.set k n) last:=by
 obtain ⟨rk,j⟩:=b.up;refine ⟨QeN b.ids d c,⟨rk,Qtc j d c g⟩,λm a=>?_,?_⟩
 ·rcases Xb2 a with a|rfl
  ·exact b.top m a
  rw [c];exact b.top _ (Xa0 d)
 obtain ⟨m,a,e⟩:=b.root;obtain ⟨i,h,rfl⟩:=Xa3 a;by_cases f:i=k
 ·subst f;exact ⟨n,mem_set (by simpa using h) n,by rw [c];exact e.1,by rw [g];exact e.2⟩
 refine ⟨R[i],mem_iff_getElem.2 ⟨i,by simpa using h,?_⟩,e⟩;rw [getElem_set_ne (λx=>f x.symm)]
theorem Qw.more (b:Qw R last) {n:RN} (f:last<n.id) (c:n.par=0):Qw (R++[n]) n.id:=by
 obtain ⟨rk,d⟩:=b.up;have:=b.last_pos;refine ⟨QjJ b.ids (by omega) (λm a=>by have:=b.top m a;omega),⟨rk,QqL d c⟩,λm a=>?_,?_⟩
 ·rcases Xa4.1 a with a|a
  ·have:=b.top m a;omega
  rw [mem_singleton.1 a];omega
 obtain ⟨m,a,e⟩:=b.root;exact ⟨m,Xa4.2 (.inl a),e⟩
theorem QrM (b:Qw R last) (o:ZF R f k) (l:k<R.length) (n:R[k].id≠1):∀ i,(c:i<R.length)->R[i].id=1->QaL (Qo R f k d) i=false:=by
 intro i c e;have p:R[i].par=0:=by obtain ⟨m,a,g,h⟩:=b.root;obtain ⟨j,q,rfl⟩:=Xa3 a;have:=b.ids.inj i j c q (e.trans g.symm);subst this;exact h
 cases r:QaL (Qo R f k d) i with
 | false=>rfl
 | true =>
  obtain ⟨t,s⟩:=Qgw.1 r;obtain ⟨_,m,a⟩:=Qc0 b.ids f k d o _ s;have g:Qg R i=R[i].id:=by simp [Qg,c]
  have h:Qg R k=R[k].id:=by simp [Qg,l]
  rw [g,h] at a;have u:=b.ids.pos _ (Xa0 l);cases m with| zero =>have a:R[i].id=R[k].id:=a;exact absurd (a.symm.trans e) n| succ m =>rw [ZC,QdI b.ids c,p,Qfq] at a;omega
theorem Qw.rem (a:Qw R last) (g:ZF R f k) (j:k<R.length) (h:R[k].id≠1):Qw (Jl R (Qo R f k d)) last:=by
 obtain ⟨rk,l⟩:=a.up;have n:=QrM a (d:=d) g j h;refine ⟨Qnd a.ids,⟨rk,Qtv l a.ids g⟩,λm c=>?_,?_⟩
 ·obtain ⟨i,b,_,_,rfl⟩:=(QgS X0).1 c;exact a.top _ (Xa0 b)
 obtain ⟨m,c,e⟩:=a.root;obtain ⟨i,b,rfl⟩:=Xa3 c;exact ⟨R[i],(QgS X0).2 ⟨i,b,b,n i b e.1,rfl⟩,e⟩
def PN.bare (n:PN):RN:={ toPN:=n,ao:=none,an:=0,ac:=0 }
def RN.bare (n:RN):RN:=n.toPN.bare
def QA (R:List RN):List RN:=R.map RN.bare
theorem Qah (R:List RN):(QA R).length=R.length:=by unfold QA;simp
theorem Qff (R a:List RN):QA (R++a)=QA R++QA a:=by unfold QA;simp
variable {R : List RN}
theorem Qp6 {a:List RN} (b:R.map RN.toPN=a.map RN.toPN):QA R=QA a:=by
 have:∀ L:List RN,QA L=(L.map RN.toPN).map PN.bare:=λL=>by unfold QA;rw [map_map];rfl
 rw [this,this,b]
theorem Qha (R:List RN) (i:Nat):Qg (QA R) i=Qg R i:=by unfold Qg QA;rw [getElem?_map];cases R[i]?<;>rfl
theorem Qni (R:List RN) (i:Nat):QaM (QA R) i=QaM R i:=by unfold QaM QA;rw [getElem?_map];cases R[i]?<;>rfl
theorem Qda (R:List RN) (id:Int):Qk (QA R) id=Qk R id:=by unfold Qk QA;rw [findIdx?_map];rfl
theorem Qtf (R:List RN) (id:Int):Qn (QA R) id=Qn R id:=by unfold Qn QaD;simp only [Qni,Qah]
theorem Qjd (R:List RN):∀ (f a:Nat) (d:Int),Qo (QA R) f a d=Qo R f a d:=by
 intro f;induction f with
 | zero=>intro a d;rfl
 | succ f ih=>intro a d;rw [Qo,Qo,Qha,Qtf];simp only [ih]
theorem Qrn (R:List RN) (id:Int):Qb9 (QA R) id=Qb9 R id:=by unfold Qb9;rw [Qda,Qni]
theorem Qj8 (R:List RN) (k:Nat):QA ((R.drop k).take 1)=((QA R).drop k).take 1:=by unfold QA;rw [map_take,map_drop]
theorem Qt6 (R:List RN) (n:RN) (fr:Nat) (bf:Int):∀ k,QA (Zh R n fr bf k)=Zh (QA R) n.bare fr bf k:=by
 intro k;induction k with
 | zero=>rfl
 | succ k ih =>
  rw [Zh,Zh,Qff,Qff,ih,Qha];congr 1
  ·congr 1
   split<;>rfl
  split
  ·rfl
  exact Qj8 R k
theorem Qsp (R:List RN) (n:RN) (fr:Nat) (bf:Int):QA (QM R n fr bf)=QM (QA R) n.bare fr bf:=by
 unfold QM;rw [Qff,Qt6,Qah];congr 1
 split<;>rfl
theorem QwK (R:List RN) (a:List (Nat × Int)):∀ k,QA (Jj R a k)=Jj (QA R) a k:=by
 intro k;induction k with
 | zero=>rfl
 | succ k ih =>
  rw [Jj,Jj,Qff,ih];congr 1
  split
  ·rfl
  exact Qj8 R k
theorem Qo4 (R:List RN) (a:List (Nat × Int)):QA (Jl R a)=Jl (QA R) a:=by unfold Jl;rw [QwK,Qah]
theorem QdN (R:List RN) (k:Nat) (n:RN):QA (R.set k n)=(QA R).set k n.bare:=by unfold QA;rw [map_set]
theorem Qa5 {m:RN}:m ∈ QA R↔∃ n,n ∈ R/\n.bare=m:=by unfold QA;exact Xa5
theorem Qkm:Up (QA R) rk↔Up R rk:=by
 constructor
 ·intro c;refine ⟨λn a=>?_,λn a d=>c.rank n.bare (Qa5.2 ⟨n,a,rfl⟩) d⟩;rcases c.par n.bare (Qa5.2 ⟨n,a,rfl⟩) with e|⟨m,b,e⟩
  ·exact .inl e
  obtain ⟨k,f,rfl⟩:=Qa5.1 b;exact .inr ⟨k,f,e⟩
 intro c;refine ⟨λm b=>?_,λm b d=>?_⟩
 ·obtain ⟨n,a,rfl⟩:=Qa5.1 b;rcases c.par n a with e|⟨k,f,e⟩
  ·exact .inl e
  exact .inr ⟨k.bare,Qa5.2 ⟨k,f,rfl⟩,e⟩
 obtain ⟨n,a,rfl⟩:=Qa5.1 b;exact c.rank n a d
theorem QpT {c:Int}:∀ (f:Nat) (x:Int),Zs R f x c=true->∃ m,ZC R m x=c:=by
 intro f;induction f with
 | zero=>intro x a;simp [Zs] at a
 | succ f ih =>
  intro x a;rw [Zs] at a;by_cases b:x=0
  ·rw [if_pos b] at a;cases a
  rw [if_neg b] at a;by_cases d:x=c
  ·exact ⟨0,d⟩
  rw [if_neg d] at a;obtain ⟨m,e⟩:=ih _ a;exact ⟨m+1,by rw [ZC];unfold upP;rw [if_neg b];exact e⟩
def Qbi (R:List RN) (x a:Int):Prop:=∃ m,ZC R m x=a
theorem Qg0 (b:Up R rk) (c:Qx R) {x a:Int} (d:a≠0) (f:∃ n,n ∈ R/\n.id=x):Zs R (rk x+1) x a=true↔Qbi R x a:=by
 constructor
 ·exact QpT _ _
 rintro ⟨m,e⟩;cases g:Zs R (rk x+1) x a with| true=>rfl| false=>exact absurd e (Qkh b c d _ x (.inr f) (.inr (by omega)) g m)
theorem Qgv (b:Up R rk) (c:Qx R) {x a:Int} (d:a≠0) (f:∃ n,n ∈ R/\n.id=x):Zs R (rk x+1) x a=false↔¬ Qbi R x a:=by rw [<- Qg0 b c d f];simp
theorem Qwr (R:List RN):∀ (m:Nat) (x:Int),ZC (QA R) m x=ZC R m x:=by
 intro m;induction m with
 | zero=>intro x;rfl
 | succ m ih=>intro x;rw [ZC,ZC,ih];unfold upP;rw [Qrn]
theorem Qpy (R:List RN) (x a:Int):Qbi (QA R) x a↔Qbi R x a:=by unfold Qbi;simp only [Qwr]
theorem QeD (a:i<(QA R).length):(QA R)[i]=(R[i]'(by rw [Qah] at a;exact a)).bare:=getElem_map (l:=R) RN.bare
theorem QmN:Qx (QA R)↔Qx R:=by
 constructor
 ·intro a;refine ⟨λn d=>a.pos n.bare (Qa5.2 ⟨n,d,rfl⟩),λi j b c e=>a.inj i j (by rw [Qah];exact b) (by rw [Qah];exact c) ?_⟩;rw [QeD,QeD];exact e
 intro a;refine ⟨λm f=>?_,λi j b c e=>a.inj i j (by rw [Qah] at b;exact b) (by rw [Qah] at c;exact c) ?_⟩
 ·obtain ⟨n,d,rfl⟩:=Qa5.1 f;exact a.pos n d
 rw [QeD,QeD] at e;exact e
theorem QiC {a b:ByteArray} (c:a.toList=b.toList):a=b:=by rw [ByteArray.toList_eq,ByteArray.toList_eq] at c;apply ByteArray.ext;exact Array.ext' c
def ZR (A:Nat->ByteArray × Int) (i:Nat):Nat->Nat
 | 0=>0
 | k+1=>ZR A i k+(if (A k).1=(A i).1/\(A k).2=0 then 1 else 0)
def J6 (A B:Nat->ByteArray × Int) (j i:Nat):Bool:=decide (A i=B j)&&(!decide ((A i).2=0)||decide (ZR A i i=ZR B j j))
def J0 (A B:Nat->ByteArray × Int) (j:Nat):Nat->Int
 | 0=>-1
 | i+1=>if J0 A B j i=-1 then (if J6 A B j i=true then (i:Int) else -1) else J0 A B j i
def Z9 (v:Nat->Int) (a:List Nat) (i:Nat):Nat->Nat
 | 0=>1
 | k+1=>if v k<v i/\Z9 v a i k<a.getD k 0+1 then a.getD k 0+1 else Z9 v a i k
def Zr (v:Nat->Int):Nat->List Nat
 | 0=>[]
 | i+1=>Zr v i++[Z9 v (Zr v i) i i]
def QaH (v:Nat->Int):Nat->Nat
 | 0=>0
 | i+1=>if QaH v i<Z9 v (Zr v i) i i then Z9 v (Zr v i) i i else QaH v i
end Go.Proofs.YtobgcaemnpkbmaaGreat
