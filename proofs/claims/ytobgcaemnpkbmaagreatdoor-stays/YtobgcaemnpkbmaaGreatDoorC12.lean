import Derived.Test.YtobgcaemnpkbmaaGreatDoorC11
namespace Go.Proofs.YtobgcaemnpkbmaaGreatDoor
set_option maxRecDepth 100000
set_option maxHeartbeats 8000000
open Go.RowKit List
def Qv (R:List RN):Nat->Nat->List Int
 | 0,_=>[]
 | f+1,a=>Qj R a::(Qy R (Qj R a)).flatMap (Qv R f)
theorem QfN (R:List RN):∀ (f a:Nat) (d:Int),(QF R f a d).map (λx=>Qj R x.1)=Qv R f a:=by
 intro f;induction f with
 | zero=>intro a d;rfl
 | succ f ih =>intro a d;rw [QF,Qv,map_cons,map_flatMap];simp only [ih]
theorem Qqn (R:List RN) (nb:Int->Nat) (D:Nat) (c:List Int->World->Prop) (L:Int->Option Addr) (a5:Int->Nat) (a9:R.length<=800) (r:∀ b w,c b w->∀ n,n ∈ R->w.cell? (Xa (nb n.id) 6)=some (.slice (L n.id) (Qe R n.id).length (a5 n.id))/\∀ i x,(Qe R n.id)[i]?=some x->∃ g,L n.id=some (Xa g 0)/\w.cell? (Xa g i)=some (Xp (nb x))) (A:∀ b w n,n ∈ R->n.id ∉ b->c b w->Xl 143 #[Xp (nb n.id),Xp D] w λe w'=>e=.returned (.tuple #[])/\c (b++[n.id]) w') (T:∀ n,n ∈ R->0<n.id) : ∀ (f a:Nat) (b:List Int) (w:World),ZP R f a->(Qv R f a).Nodup->(∀ x,x ∈ Qv R f a->x ∉ b)->c b w -> Xl 65 #[Xp (nb (Qj R a)),.func (.func 143) #[] #[Xp D]] w λe w'=>e=.returned (.tuple #[])/\c (b++Qv R f a) w':=by
 intro f;induction f with
 | zero=>intro a b w h;exact h.elim
 | succ f ih =>
  intro a b w U k p v;obtain ⟨M,s⟩:=U;have q:=QS M;have m:R[a] ∈ R:=getElem_mem M;have ac:=T _ m;have a8:=QdU R R[a].id;have F:(Qy R R[a].id).length=(Qe R R[a].id).length:=by rw [<- Qck R (by omega),length_map]
  have C:∀ i,(d:i<(Qy R R[a].id).length)->(Qe R R[a].id)[i]?=some (Qj R (Qy R R[a].id)[i]):=λi d=>by rw [<- Qck R (by omega),getElem?_map,getElem?_eq_getElem d];rfl
  rw [q] at s;have N:Qv R (f+1) a=R[a].id::(Qy R R[a].id).flatMap (Qv R f):=by rw [Qv,q]
  rw [N] at k p ⊢;rw [q];have S:Hid (Xl 143 #[Xp (nb R[a].id),Xp D] w λe w'=>e=.returned (.tuple #[])/\c (b++[R[a].id]) w'):=Qa (A b w R[a] m (p _ (by simp)) v);have W:Hid (∀ i,(d:i<(Qy R R[a].id).length)->∀ w1,c (b++R[a].id::((Qy R R[a].id).take i).flatMap (Qv R f)) w1->Xl 65 #[Xp (nb (Qj R (Qy R R[a].id)[i])),.func (.func 143) #[] #[Xp D]] w1 λe w'=>e=.returned (.tuple #[])/\c (b++R[a].id::((Qy R R[a].id).take (i+1)).flatMap (Qv R f)) w'):=by
   refine Qa λi d w1 O=>?_;have P:(Qy R R[a].id).take (i+1)=(Qy R R[a].id).take i++[(Qy R R[a].id)[i]]:=take_succ_eq_append_getElem d;have E:(Qy R R[a].id).flatMap (Qv R f)=((Qy R R[a].id).take i).flatMap (Qv R f)++(Qv R f (Qy R R[a].id)[i]++((Qy R R[a].id).drop (i+1)).flatMap (Qv R f)):=by
    conv=>lhs;rw [<- take_append_drop i (Qy R R[a].id),drop_eq_getElem_cons d]
    rw [flatMap_append,flatMap_cons]
   rw [E,nodup_cons,nodup_append,nodup_append] at k;have:=ih (Qy R R[a].id)[i] (b++R[a].id::((Qy R R[a].id).take i).flatMap (Qv R f)) w1 (s _ (getElem_mem d)) k.2.2.1.1 (λx y X=>?_) O
   ·rw [P,flatMap_append];simpa using this
   rcases mem_append.1 X with o|o
   ·exact p x (by rw [E];simp [y]) o
   rcases mem_cons.1 o with rfl|o
   ·exact k.1 (by simp [y])
   exact k.2.2.2 x o x (by simp [y]) rfl
  have B:=Qa r;have V:=Qa C;have G:=Qa F;obtain ⟨z,_⟩:=r b w v R[a] m;clear r A ih s k p N v C F q;generalize H:nb R[a].id=ad at *;have Y:=Qa H;generalize I:(Qe R R[a].id).length=l at *;have a0:=Qa I;have aa:l<=800:=by omega
  clear H I z;go_enter Tryz.func65,Tryz.ntmps65;go_wp2_with (first|(go_at_call 143;refine (Qb S).mono ?_;rintro e w1 ⟨rfl,t⟩;obtain ⟨z,_⟩:=Qb B _ w1 t R[a] m;rw [Qb Y,Qb a0] at z;have a1:=Qa t;clear t));go_loopw [5,14] (λ_ i wr=>∃ j:Nat,j<=l/\i=Xi j/\Hid (c (b++R[a].id::((Qy R R[a].id).take j).flatMap (Qv R f)) wr)) (λ_ i _=>l-(intOf i).toNat);·exact ⟨0,Nat.zero_le _,rfl,by simpa using a1⟩
  case round =>
   obtain ⟨j,O,rfl,u⟩:=hrel;by_cases a2:j<l
   ·have J:j<(Qy R R[a].id).length:=by rw [Qb G];exact a2
    obtain ⟨g,a6,ae⟩:=(Qb B _ _ (Qb u) R[a] m).2 j _ (Qb V j J);have a7:=Qa (Qb W j J _ (Qb u));have ab:(j:Int)<(l:Int):=by omega
    rw [a6];go_wp2_with (first|(go_at_call 65;refine (Qb a7).mono ?_;rintro e w2 ⟨rfl,K⟩;have a3:=Qa K;clear K));go_roundw;·exact ⟨j+1,by omega,by go_num,a3⟩
    simp [intOf];omega
   have a4:j=l:=by omega
   subst a4;go_wp2;refine bodyPost_end (results_none rfl _ _ _) rfl ?_;refine ⟨rfl,?_⟩;have:=Qb u;rwa [<- Qb G,take_length] at this
theorem Qut (R:List RN) (nb:Int->Nat) (D:Nat) (c:List Int->World->Prop) (L:Int->Option Addr) (a5:Int->Nat) (a9:R.length<=800) (r:∀ b w,c b w->∀ n,n ∈ R->w.cell? (Xa (nb n.id) 6)=some (.slice (L n.id) (Qe R n.id).length (a5 n.id))/\∀ i x,(Qe R n.id)[i]?=some x->∃ g,L n.id=some (Xa g 0)/\w.cell? (Xa g i)=some (Xp (nb x))) (A:∀ b w n,n ∈ R->n.id ∉ b->c b w->Xl 66 #[Xp (nb n.id),Xp D] w λe w'=>e=.returned (.tuple #[])/\c (b++[n.id]) w') (T:∀ n,n ∈ R->0<n.id) : ∀ (f a:Nat) (b:List Int) (w:World),ZP R f a->(Qv R f a).Nodup->(∀ x,x ∈ Qv R f a->x ∉ b)->c b w -> Xl 65 #[Xp (nb (Qj R a)),.func (.func 66) #[] #[Xp D]] w λe w'=>e=.returned (.tuple #[])/\c (b++Qv R f a) w':=by
 intro f;induction f with
 | zero=>intro a b w h;exact h.elim
 | succ f ih =>
  intro a b w U k p v;obtain ⟨M,s⟩:=U;have q:=QS M;have m:R[a] ∈ R:=getElem_mem M;have ac:=T _ m;have a8:=QdU R R[a].id;have F:(Qy R R[a].id).length=(Qe R R[a].id).length:=by rw [<- Qck R (by omega),length_map]
  have C:∀ i,(d:i<(Qy R R[a].id).length)->(Qe R R[a].id)[i]?=some (Qj R (Qy R R[a].id)[i]):=λi d=>by rw [<- Qck R (by omega),getElem?_map,getElem?_eq_getElem d];rfl
  rw [q] at s;have N:Qv R (f+1) a=R[a].id::(Qy R R[a].id).flatMap (Qv R f):=by rw [Qv,q]
  rw [N] at k p ⊢;rw [q];have S:Hid (Xl 66 #[Xp (nb R[a].id),Xp D] w λe w'=>e=.returned (.tuple #[])/\c (b++[R[a].id]) w'):=Qa (A b w R[a] m (p _ (by simp)) v);have W:Hid (∀ i,(d:i<(Qy R R[a].id).length)->∀ w1,c (b++R[a].id::((Qy R R[a].id).take i).flatMap (Qv R f)) w1->Xl 65 #[Xp (nb (Qj R (Qy R R[a].id)[i])),.func (.func 66) #[] #[Xp D]] w1 λe w'=>e=.returned (.tuple #[])/\c (b++R[a].id::((Qy R R[a].id).take (i+1)).flatMap (Qv R f)) w'):=by
   refine Qa λi d w1 O=>?_;have P:(Qy R R[a].id).take (i+1)=(Qy R R[a].id).take i++[(Qy R R[a].id)[i]]:=take_succ_eq_append_getElem d;have E:(Qy R R[a].id).flatMap (Qv R f)=((Qy R R[a].id).take i).flatMap (Qv R f)++(Qv R f (Qy R R[a].id)[i]++((Qy R R[a].id).drop (i+1)).flatMap (Qv R f)):=by
    conv=>lhs;rw [<- take_append_drop i (Qy R R[a].id),drop_eq_getElem_cons d]
    rw [flatMap_append,flatMap_cons]
   rw [E,nodup_cons,nodup_append,nodup_append] at k;have:=ih (Qy R R[a].id)[i] (b++R[a].id::((Qy R R[a].id).take i).flatMap (Qv R f)) w1 (s _ (getElem_mem d)) k.2.2.1.1 (λx y X=>?_) O
   ·rw [P,flatMap_append];simpa using this
   rcases mem_append.1 X with o|o
   ·exact p x (by rw [E];simp [y]) o
   rcases mem_cons.1 o with rfl|o
   ·exact k.1 (by simp [y])
   exact k.2.2.2 x o x (by simp [y]) rfl
  have B:=Qa r;have V:=Qa C;have G:=Qa F;obtain ⟨z,_⟩:=r b w v R[a] m;clear r A ih s k p N v C F q;generalize H:nb R[a].id=ad at *;have Y:=Qa H;generalize I:(Qe R R[a].id).length=l at *;have a0:=Qa I;have aa:l<=800:=by omega
  clear H I z;go_enter Tryz.func65,Tryz.ntmps65;go_wp2_with (first|(go_at_call 66;refine (Qb S).mono ?_;rintro e w1 ⟨rfl,t⟩;obtain ⟨z,_⟩:=Qb B _ w1 t R[a] m;rw [Qb Y,Qb a0] at z;have a1:=Qa t;clear t));go_loopw [5,14] (λ_ i wr=>∃ j:Nat,j<=l/\i=Xi j/\Hid (c (b++R[a].id::((Qy R R[a].id).take j).flatMap (Qv R f)) wr)) (λ_ i _=>l-(intOf i).toNat);·exact ⟨0,Nat.zero_le _,rfl,by simpa using a1⟩
  case round =>
   obtain ⟨j,O,rfl,u⟩:=hrel;by_cases a2:j<l
   ·have J:j<(Qy R R[a].id).length:=by rw [Qb G];exact a2
    obtain ⟨g,a6,ae⟩:=(Qb B _ _ (Qb u) R[a] m).2 j _ (Qb V j J);have a7:=Qa (Qb W j J _ (Qb u));have ab:(j:Int)<(l:Int):=by omega
    rw [a6];go_wp2_with (first|(go_at_call 65;refine (Qb a7).mono ?_;rintro e w2 ⟨rfl,K⟩;have a3:=Qa K;clear K));go_roundw;·exact ⟨j+1,by omega,by go_num,a3⟩
    simp [intOf];omega
   have a4:j=l:=by omega
   subst a4;go_wp2;refine bodyPost_end (results_none rfl _ _ _) rfl ?_;refine ⟨rfl,?_⟩;have:=Qb u;rwa [<- Qb G,take_length] at this
theorem Qu8:∀ {a:List RN} {x:Int},(a.map (·.id)).Nodup->x ∈ a.map (·.id)->(a.filter λn=>n.id !=x).length+1=a.length:=by
 intro a x;induction a with
 | nil=>intro _ h;simp at h
 | cons n a ih =>
  intro b c;rw [map_cons,nodup_cons] at b;by_cases e:n.id=x
  ·have:(a.filter λm=>m.id !=x)=a:=filter_eq_self.2 λm d=>by simp;intro e';exact b.1 (mem_map.2 ⟨m,d,e'.trans e.symm⟩)
   rw [filter_cons_of_neg (by simp [e]),this,length_cons]
  rw [filter_cons_of_pos (by simp [e]),length_cons,length_cons];rw [map_cons,mem_cons] at c;have:=ih b.2 (c.resolve_left λh=>e h.symm);omega
def JH (R:List RN) (L:List Int):List RN:=R.filter λn=>!(L.contains n.id)
theorem QcO {R:List RN} {L:List Int} {n:RN}:n ∈ JH R L↔n ∈ R/\n.id ∉ L:=by unfold JH;rw [mem_filter];simp
theorem Qp1 (R:List RN) (x:Int) (L:List Int):JH R (x::L)=(JH R L).filter λn=>n.id !=x:=by unfold JH;rw [filter_filter];refine filter_congr λn _=>?_;by_cases e:n.id=x<;>by_cases a:n.id ∈ L<;>simp [e,a]<;>simp_all
theorem Qk0 {R:List RN} (h:(R.map (·.id)).Nodup):∀ {L:List Int},L.Nodup->(∀ x,x ∈ L->x ∈ R.map (·.id))->(JH R L).length+L.length=R.length:=by
 intro L;induction L with
 | nil=>intro _ _;unfold JH;simp
 | cons x L ih =>intro a b;rw [nodup_cons] at a;have i:=ih a.2 λg c=>b g (by simp [c]);obtain ⟨n,d,e⟩:=mem_map.1 (b x (by simp));have f:((JH R L).map (·.id)).Nodup:=(List.Sublist.map _ (filter_sublist (l:=R))).nodup h;have j:=Qu8 f (x:=x) (mem_map.2 ⟨n,QcO.2 ⟨d,by rw [e];exact a.1⟩,e⟩);rw [Qp1,length_cons];omega
theorem Qkb {R:List RN} {f a:Nat} {x:Int}:x ∈ Qv R f a↔∃ b,b ∈ QF R f a 0/\Qj R b.1=x:=by rw [<- QfN R f a 0,mem_map]
theorem QfR {R:List RN} (i:Qp R) {f a:Nat} (n:ZP R f a):rmP R (QF R f a 0)=JH R (Qv R f a):=by
 have h:∀ k,k<=R.length->Qa1 R (QF R f a 0) k=JH (R.take k) (Qv R f a):=by
  intro k;induction k with
  | zero=>intro _;rfl
  | succ k ih =>
   intro o;have b:k<R.length:=o;rw [Qa1,ih (by omega),Qc1 b];unfold JH;rw [filter_append];congr 1
   have c:(R.drop k).take 1=[R[k]]:=by rw [drop_eq_getElem_cons b];rfl
   have j:Qcc (QF R f a 0) k=true↔R[k].id ∈ Qv R f a:=by
    rw [Qfq,Qkb];constructor
    ·rintro ⟨d,c⟩;exact ⟨(k,d),c,QS b⟩
    rintro ⟨m,l,e⟩;have g:=(QcL i f a 0 n m l).1;rw [QS g] at e;have:=i.inj _ _ g b e;exact ⟨m.2,by rw [<- this];exact l⟩
   by_cases e:R[k].id ∈ Qv R f a
   ·rw [if_pos (j.2 e),filter_cons_of_neg (by simp [e])];rfl
   rw [if_neg (λh=>e (j.1 h)),c,filter_cons_of_pos (by simp [e])];rfl
 unfold rmP;rw [h _ (Nat.le_refl _),take_length]
theorem Qji {R:List RN} {rk:Int->Nat} (k:Up R rk) (b:Qp R) {f a:Nat} (i:ZP R f a):(Qv R f a).Nodup:=by
 rw [<- QfN R f a 0];have l:=Qhh k b f a 0 i;have m:(QF R f a 0).map (λx=>Qj R x.1)=((QF R f a 0).map (·.1)).map (Qj R):=by rw [map_map];rfl
 rw [m];have h:∀ x,x ∈ (QF R f a 0).map (·.1)->x<R.length:=λx c=>by obtain ⟨g,d,rfl⟩:=mem_map.1 c;exact (QcL b f a 0 i g d).1
 rw [List.Nodup,pairwise_map];refine List.Pairwise.imp_of_mem (fun {x g} c d j e=>?_) l;rw [QS (h x c),QS (h g d)] at e;exact j (b.inj _ _ _ _ e)
theorem Qsn {R:List RN} {rk:Int->Nat} (c:Up R rk) {k:Nat} (a:k<R.length):Up (QO R k) rk where
 par:=λn b=>by
  rcases Qgw a b with h|rfl
  ·exact (c.par n h).imp id λh=>(Qh9 a _).2 h
  ·exact .inl rfl
 rank:=λn b d=>by
  rcases Qgw a b with h|rfl
  ·exact c.rank n h d
  ·exact absurd rfl d
theorem Qk5 {R:List RN} {k:Nat} (a:k<R.length) (i:Nat):Qj (QO R k) i=Qj R i:=by
 rw [Jq a];unfold Qj;rw [getElem?_set];by_cases e:k=i
 ·subst e;rw [if_pos rfl,if_pos a,getElem?_eq_getElem a]
 rw [if_neg e]
theorem QnL {R:List RN} {k:Nat} (a:k<R.length) {i:Nat} (h:k≠i):QaL (QO R k) i=QaL R i:=by rw [Jq a];unfold QaL;rw [getElem?_set,if_neg h]
theorem QpI {R:List RN} {k:Nat} (a:k<R.length) {q:Int} (c:R[k].par≠q):Qy (QO R k) q=Qy R q:=by
 unfold Qy;by_cases b:q=0
 ·rw [if_pos b,if_pos b]
 rw [if_neg b,if_neg b,QcW a];unfold Qbt;refine filter_congr λi _=>?_;by_cases e:k=i
 ·subst e;have d:QaL (QO R k) k=0:=by rw [Jq a];unfold QaL;rw [getElem?_set,if_pos rfl,if_pos a]
  rw [d,QbA a];have f:((0:Int)==q)=false:=beq_false_of_ne λe=>b e.symm;have g:(R[k].par==q)=false:=beq_false_of_ne c;rw [f,g]
 rw [QnL a e]
theorem Qow {R:List RN} {rk:Int->Nat} (g:Up R rk) {k:Nat} (b:k<R.length):∀ (f a:Nat),rk R[k].id<=rk (Qj R a)->Qv (QO R k) f a=Qv R f a:=by
 intro f;induction f with
 | zero=>intro a _;rfl
 | succ f ih =>
  intro a q;rw [Qv,Qv,Qk5 b];by_cases i:Qj R a=0
  ·rw [i];rfl
  have m:R[k].par≠Qj R a:=λe=>by have:=g.rank R[k] (getElem_mem b) (by rw [e];exact i);rw [e] at this;omega
  rw [QpI b m];congr 1
  have o:∀ (l:List Nat),(∀ c,c ∈ l->c ∈ Qy R (Qj R a))->l.flatMap (Qv (QO R k) f)=l.flatMap (Qv R f):=by
   intro l;induction l with
   | nil=>intro _;rfl
   | cons c l n =>intro j;rw [flatMap_cons,flatMap_cons,n λd p=>j d (by simp [p]),ih c (by have:=Qex g (j c (by simp));omega)]
  exact o _ λ_ h=>h
theorem QrO {R:List RN} {f a:Nat} (h:0<f):Qj R a ∈ Qv R f a:=by cases f with| zero=>omega| succ f=>rw [Qv];simp
theorem Qrq {R:List RN} {rk:Int->Nat} (g:Qp R) (d:Up R rk) {k:Nat} (b:k<R.length):rmP R (QF R R.length k 0)=JH (QO R k) (Qv (QO R k) R.length k):=by
 rw [QfR g (QaA d b),Qow d b _ _ (by rw [QS b];exact Nat.le_refl _),Jq b];have c:R[k].id ∈ Qv R R.length k:=by have:=QrO (R:=R) (f:=R.length) (a:=k) (by omega);rwa [QS b] at this
 generalize Qv R R.length k=L at *;unfold JH;rw [Qfc _ b];conv=>lhs;rw [QeS b]
 simp only [filter_append];rw [filter_cons_of_neg (by simp [c]),filter_cons_of_neg (by simp [c])]
theorem QtZ {R:List RN} {L:List Int} {q:Int} (h:∀ n,n ∈ R->n.par=q->n.id ∉ L):Qe (JH R L) q=Qe R q:=by
 unfold Qe JH;rw [filter_filter];congr 1
 refine filter_congr λn a=>?_;by_cases e:n.par=q
 ·simp [e,h n a e]
 simp [e]
theorem Quu {nb:Int->Nat} {R:List RN} {L:List Int} (i:Int):ZH nb (JH R L) i=if i ∈ L then none else ZH nb R i:=by
 by_cases e:i ∈ L
 ·rw [if_pos e];exact Qd8 λn a h=>(QcO.1 a).2 (by rw [h];exact e)
 rw [if_neg e];by_cases h:∃ n,n ∈ R/\n.id=i
 ·obtain ⟨n,a,rfl⟩:=h;rw [Qc4 a,Qc4 (QcO.2 ⟨a,e⟩)]
 rw [Qd8 (R:=R) λn a e=>h ⟨n,a,e⟩,Qd8 λn a e=>h ⟨n,(QcO.1 a).1,e⟩]
theorem Qld {R:List RN} (l:Qp R) {f a:Nat} (d:ZP R f a) {i:Nat} (r:i<R.length) (b:R[i].id ∈ Qv R f a):i=a \/ ∃ n,n ∈ R/\n.id=R[i].par/\n.id ∈ Qv R f a:=by
 revert a;induction f with
 | zero=>intro a d;exact d.elim
 | succ f ih =>
  intro a d b;obtain ⟨g,m⟩:=d;rw [Qv,mem_cons,QS g] at b;rcases b with e|b
  ·exact .inl (l.inj _ _ _ _ e)
  right;obtain ⟨c,h,b⟩:=mem_flatMap.1 b;obtain ⟨k,j,_⟩:=QcX h;rw [Qv,QS g];rcases ih (m c (by rw [QS g];exact h)) b with rfl|⟨n,o,p,q⟩
  ·rw [QbA k] at j;exact ⟨R[a],getElem_mem g,j.symm,by simp⟩
  exact ⟨n,o,p,mem_cons_of_mem _ (mem_flatMap.2 ⟨c,h,q⟩)⟩
theorem Qq8 {w:World} {D q b c:Nat} {f:Int->Option Nat} {h:Nat} (i:Int) (m:Qg i) (p:Xc w D 0 (Xp q)) (cm:Xc w q 1 (.map (some b))) (r:Xc w c 0 (Xi i)) (d:Je w b f h) (g:(f i).isSome=true) : Xl 143 #[Xp c,Xp D] w λe w'=>e=.returned (.tuple #[])/\Je w' b (λj=>if j=i then none else f j) (h-1)/\w.grownBy w' (some b)/\w'.heap.size=w.heap.size:=by have n:=Qa d;have o:=Qa g;clear d g;go_enter Tryz.func143,Tryz.ntmps143;go_still_tail 8,(by kernel_rfl);change wpList _ _ _ _ _ w.drew;go_wp2_with (first|(refine Qov _ rfl _ _ rfl rfl (Je.heap (w':=w.drew) (Qb n) rfl) i m rfl (Qb o) ?_;intro w2 k a l));refine bodyPost_end (results_none rfl _ _ _) rfl ⟨rfl,Qb k,⟨(Qb a).os,(Qb a).tape,(Qb a).output,(Qb a).size,(Qb a).block⟩,l⟩
theorem Qi.kids_read {c:Qo} {nb:Int->Nat} {o:Nat} {r:Option Nat} {w:World} {q:Nat} {R:List RN} {last:Int} (h:Qi c nb o r w q R last) : ∃ (k:Int->Option Addr) (s:Int->Nat),∀ n,n ∈ R->w.cell? (Xa (nb n.id) 6)=some (.slice (k n.id) (Qe R n.id).length (s n.id))/\∀ i x,(Qe R n.id)[i]?=some x->∃ g,k n.id=some (Xa g 0)/\c g=some (n.id,2)/\w.cell? (Xa g i)=some (Xp (nb x)):=by
 have t:∀ j:Int,∃ p:Option Addr × Nat,(∃ n,n ∈ R/\n.id=j)->w.cell? (Xa (nb j) 6)=some (.slice p.1 (Qe R j).length p.2)/\∀ i x,(Qe R j)[i]?=some x->∃ g,p.1=some (Xa g 0)/\c g=some (j,2)/\w.cell? (Xa g i)=some (Xp (nb x)):=λj=>by
  by_cases l:∃ n,n ∈ R/\n.id=j
  ·obtain ⟨n,d,rfl⟩:=l;obtain ⟨y,z,a⟩:=h.node n d;rcases a.krow.2 with ⟨e,m⟩|⟨g,cap,v,e,_⟩
   ·subst e;refine ⟨(none,0),λ_=>⟨by have:=Qf a.blk 6 _ rfl;rw [m];exact this,λi x b=>?_⟩⟩;rw [length_eq_zero_iff.1 m] at b;simp at b
   subst e;refine ⟨(some (Xa g 0),cap),λ_=>⟨Qf a.blk 6 _ rfl,λi x b=>⟨g,rfl,a.krole g rfl,?_⟩⟩⟩;rw [a.krow.cellAt i (by have:=(List.getElem?_eq_some_iff.1 b).1;omega)];unfold Z5;rw [getElem?_map,b];rfl
  exact ⟨(none,0),λe=>absurd e l⟩
 obtain ⟨f,u⟩:=Classical.skolem.1 t;exact ⟨λj=>(f j).1,λj=>(f j).2,λn d=>u n.id ⟨n,d,rfl⟩⟩
theorem Qoc {t:Qo} {nb:Int->Nat} {p:Nat} {X:Option Nat} {w:World} {q:Nat} {R:List RN} {last:Int} {k:Nat} (h:Qi t nb p X w q (QO R k) last) (Y:Qp R) (A:∃ rk,Up R rk) (d:k<R.length) (a8:∀ n,n ∈ R->Qg n.id) {D:Nat} (ao:Xc w D 0 (Xp q)) (a9:D≠p) : Xl 65 #[Xp (nb R[k].id),.func (.func 143) #[] #[Xp D]] w λe w'=>e=.returned (.tuple #[])/\QV t t w w'/\Qi t nb p X w' q (rmP R (QF R R.length k 0)) last:=by
 obtain ⟨rk,A⟩:=A;have l:=Qfp Y d;have S:=Qsn A d;have T:=QcW d;have aa:k<(QO R k).length:=by rw [T];exact d
 have r:=QaA S aa;rw [T] at r;have U:=Qji S l r;have a5:∀ n,n ∈ QO R k->Qg n.id:=λn c=>by obtain ⟨m,M,e⟩:=(Qh9 d n.id).1 ⟨n,c,rfl⟩;rw [<- e];exact a8 m M
 have ab:Qj (QO R k) k=R[k].id:=by rw [Qk5 d,QS d]
 rw [Qrq Y A d];have a3:(QO R k)[k].par=0:=by simp [Jq d]
 have E:∀ n,n ∈ QO R k->∃ v y,Jl t nb w (QO R k) n v y:=h.node;have a6:=h.map;have V:q≠p:=λe=>by have f:=h.mrole;rw [<- e,h.role] at f;have:=(Prod.mk.inj (Option.some.inj f)).2;omega
 generalize QO R k=a at *;have P:∀ n,n ∈ a->nb n.id≠p:=λn c e=>by obtain ⟨v,y,B⟩:=E n c;have f:=B.role;rw [e,h.mrole] at f;have:=(Prod.mk.inj (Option.some.inj f)).1;have:=l.pos n c;omega
 obtain ⟨ap,aq,a4⟩:=h.kids_read;have a7:∀ x,x ∈ Qv a R.length k->x ∈ a.map (·.id):=λx N=>by obtain ⟨a2,ar,e⟩:=Qkb.1 N;have a0:=(QcL l _ _ _ r a2 ar).1;exact mem_map.2 ⟨a[a2.1],getElem_mem a0,by rw [<- e,QS a0]⟩
 rw [<- ab];refine (Qqn a nb D (λo w'=>Je w' p (λj=>if j ∈ o then none else ZH nb a j) (a.length-o.length)/\w'.heap.size=w.heap.size/\(∀ b,b≠p->w'.heap[b]?=w.heap[b]?)/\w'.os=w.os/\w'.tape=w.tape/\w'.output=w.output) ap aq h.few ?_ ?_ l.pos R.length k [] w r U (λ_ _ h=>by simp at h) ⟨?_,rfl,λ_ _=>rfl,rfl,rfl,rfl⟩:Calls _ _ _ _ _).mono ?_
 ·rintro o w1 ⟨_,_,hb,_⟩ n c;obtain ⟨f,C⟩:=a4 n c;refine ⟨(World.cell?_of_block (hb _ (P n c))).trans f,λi x N=>?_⟩;obtain ⟨g,e,a1,au⟩:=C i x N;refine ⟨g,e,(World.cell?_of_block (hb g λe=>?_)).trans au⟩;rw [e,h.mrole] at a1;have:=(Prod.mk.inj (Option.some.inj a1)).2;omega
 ·rintro o w1 n c ac ⟨ad,ae,hb,F,G,H⟩;obtain ⟨v,y,O⟩:=E n c;refine (Qq8 n.id (a5 n c) ((World.cell?_of_block (hb D a9)).trans ao) ((World.cell?_of_block (hb q V)).trans (Qf h.blk 1 _ rfl)) ((World.cell?_of_block (hb _ (P n c))).trans (Qf O.blk 0 _ rfl)) ad (by rw [if_neg ac,Qc4 c];rfl)).mono ?_;rintro e w2 ⟨rfl,af,z,ag⟩;refine ⟨rfl,?_,ag.trans ae,λb I=>?_,z.os.trans F,z.tape.trans G,z.output.trans H⟩
  ·rw [length_append,length_singleton,<- Nat.sub_sub];have s:(λj=>if j ∈ o++[n.id] then none else ZH nb a j)=(λj=>if j=n.id then none else if j ∈ o then none else ZH nb a j):=by funext j;by_cases av:j=n.id<;>by_cases aw:j ∈ o<;>simp [av,aw]
   rw [s];exact af
  rcases Nat.lt_or_ge b w1.heap.size with ah|ai
  ·exact (z.block b ah λe=>I (Option.some.inj e)).trans (hb b I)
  rw [<- hb b I,Array.getElem?_eq_none (by omega),Array.getElem?_eq_none ai]
 ·have s:(λj=>if j ∈ ([]:List Int) then none else ZH nb a j)=ZH nb a:=by funext j;simp
  rw [s];exact a6
 rintro e w' ⟨rfl,J,W,K,F,G,H⟩;rw [nil_append] at J;have ay:=Qk0 l.nodup U a7;have s:(λj=>if j ∈ Qv a R.length k then none else ZH nb a j)=ZH nb (JH a (Qv a R.length k)):=by funext j;exact (Quu j).symm
 have aj:a.length-(Qv a R.length k).length=(JH a (Qv a R.length k)).length:=by omega
 rw [s,aj] at J;refine ⟨rfl,⟨⟨F,G,H,Nat.le_of_eq W.symm,λb _ c=>K b λe=>c (by rw [e,h.mrole];rfl)⟩,λ_ _=>rfl,λ_ e=>.inl e⟩,⟨(K q V).trans h.blk,h.role,h.mrole,J,λn c=>?_,λb e=>by rw [W];exact h.low b e,by have:=h.few;omega⟩⟩;obtain ⟨L,ak⟩:=QcO.1 c;obtain ⟨v,y,O⟩:=E n L;refine ⟨v,y,O.kept (λb j e=>K b λe'=>?_) (λ_ _=>rfl) (QtZ λm M B al=>?_)⟩
 ·rw [e',h.mrole] at e;have:=(Prod.mk.inj (Option.some.inj e)).1;have:=l.pos n L;omega
 obtain ⟨i,ax,rfl⟩:=getElem_of_mem M;rcases Qld l r ax al with rfl|⟨u,az,f,C⟩
 ·rw [a3] at B;have:=l.pos n L;omega
 rw [f,B] at C;exact ak C
theorem QtN (s:Qo) (nb:Int->Nat) (d:Nat) (w:World) (q:Nat) (R:List RN) (last:Int) (h:Qi s nb d (some (nb 1)) w q R last) (f id pa bf g:Int) (tg nm i:ByteArray) (m:Qg id) (o:∀ n,n ∈ R->n.id≠id) : Xl 104 #[Xp q,.agg #[Xi f,Xi id,Xi pa,Xi bf,Xi g,.string tg,.string nm,.string i]] w λe w'=>e=.returned (.bool false)/\Xb w w':=by
 have j:=Qf h.blk 1 (.map (some d)) rfl;have c:=QN h.blk;have k:=Qf h.blk 0 (Xp (nb 1)) rfl;have p:=Qdp h m o;clear h;go_enter Tryz.func104,Tryz.ntmps104;go_wp2_with fail;generalize a:(w.alloc (.cells #[Xp q] 90)).alloc (.cells #[Xi f,Xi id,Xi pa,Xi bf,Xi g,.string tg,.string nm,.string i] 60)=l;have b:=Xu a;have t:w.heap.size+1<l.heap.size:=by rw [<- a];simp
 have v:=Xx a 0 (Xp q) rfl;have x:=Xy a 1 (Xi id) rfl;have y:=(Xh b q 1 c).trans j;have z:=(Xh b q 0 c).trans k;have u:=λn=>p.out (l.drewN n) (Ql b n);have r:=Qa b;clear a b j k;go_big_quiet (fail);go_wp2;go_ret;exact ⟨rfl,Ql r.out _⟩
theorem Qq2 (y:Qo) (nb:Int->Nat) (f:Nat) (w:World) (q:Nat) (R:List RN) (last:Int) (h:Qi y nb f (some (nb 1)) w q R last) (k pa bf l:Int) (tg nm m:ByteArray) (r:Nat) (o:r<R.length) (c:R[r].id=1) : Xl 104 #[Xp q,.agg #[Xi k,Xi 1,Xi pa,Xi bf,Xi l,.string tg,.string nm,.string m]] w λe w'=>e=.returned (.bool false)/\Xb w w':=by
 have p:=Qf h.blk 1 (.map (some f)) rfl;have j:=QN h.blk;have s:=Qf h.blk 0 (Xp (nb 1)) rfl;obtain ⟨A,B,d⟩:=h.node _ (getElem_mem o);have u:Hid (∀ w1,Xb w w1->(binOp .eql 140 (Xp (nb 1)) (Xp (nb 1))).run Tryz.prog w1=.ok (.bool true) w1):=Qa λw1 hb=>by
  have t:Jx w1 (nb 1):=by rw [<- c];exact ⟨_,_,(hb.block _ d.lt).trans d.blk⟩
  rw [Qci t t,beq_self_eq_true]
 have v:Hid (∀ w1,Xb w w1->(Instr.lookup 139 (.map (some f)) (Xi 1) false).run Tryz.prog w1=.ok (Xp (nb 1)) w1):=Qa λw1 hb=>by have:=(h.below hb).map.look (i:=1) ⟨by decide,by decide⟩;rw [<- c,Qc4 (getElem_mem o),c] at this;exact this
 clear h d c;go_enter Tryz.func104,Tryz.ntmps104;go_wp2_with fail;generalize b:(w.alloc (.cells #[Xp q] 90)).alloc (.cells #[Xi k,Xi 1,Xi pa,Xi bf,Xi l,.string tg,.string nm,.string m] 60)=g;have a:=Xu b;have C:w.heap.size+1<g.heap.size:=by rw [<- b];simp
 have E:=Xx b 0 (Xp q) rfl;have F:=Xy b 1 (Xi 1) rfl;have G:=(Xh a q 1 j).trans p;have H:=(Xh a q 0 j).trans s;have D:=λn=>v.out (g.drewN n) (Ql a n);have z:=λn=>u.out (g.drewN n) (Ql a n);have x:=Qa a;clear b a p s;go_big_quiet (fail);go_wp2;go_ret;exact ⟨rfl,Ql x.out _⟩
theorem QuZ (g:Qo) (nb:Int->Nat) (a:Nat) (w:World) (q:Nat) (R:List RN) (last:Int) (h:Qi g nb a (some (nb 1)) w q R last) (z id pa bf A:Int) (tg nm B:ByteArray) (H:Qg id) (C:Qp R) (E:∃ rk,Up R rk) (I:∀ n,n ∈ R->Qg n.id) (k:Nat) (m:k<R.length) (c:R[k].id=id) (J:id≠1) (r:Nat) (X:r<R.length) (i:R[r].id=1) : Xl 104 #[Xp q,.agg #[Xi z,Xi id,Xi pa,Xi bf,Xi A,.string tg,.string nm,.string B]] w λe w'=>e=.returned (.bool true)/\∃ ρ',QV g ρ' w w'/\Qi ρ' nb a (some (nb 1)) w' q (rmP R (QF R R.length k 0)) last:=by
 have F:=Qf h.blk 1 (.map (some a)) rfl;have s:=QN h.blk;have G:=Qf h.blk 0 (Xp (nb 1)) rfl;obtain ⟨a5,a6,j⟩:=h.node _ (getElem_mem X);obtain ⟨a7,a8,l⟩:=h.node _ (getElem_mem m);have t:nb id≠nb 1:=λe=>by have:=l.nb_inj j (by rw [c,i];exact e);rw [c,i] at this;exact J this
 have K:Hid (∀ w1,Xb w w1->(binOp .eql 140 (Xp (nb id)) (Xp (nb 1))).run Tryz.prog w1=.ok (.bool false) w1):=Qa λw1 hb=>by
  have Y:Jx w1 (nb 1):=by rw [<- i];exact ⟨_,_,(hb.block _ j.lt).trans j.blk⟩
  have a0:Jx w1 (nb id):=by rw [<- c];exact ⟨_,_,(hb.block _ l.lt).trans l.blk⟩
  have:=Qci a0 Y;rwa [beq_false_of_ne (λe=>t (by simpa using e))] at this
 have L:Hid (∀ w1,Xb w w1->Xl 142 #[Xp (nb id)] w1 λe w'=>e=.returned (.tuple #[])/\∃ ρ',QV g ρ' w1 w'/\Qi ρ' nb a (some (nb 1)) w' q (QO R k) last):=Qa λw1 hb=>by rw [<- c];exact QhK g nb a _ w1 q R last (h.below hb) C E k m
 have M:Hid (∀ ρ' w2 D,Qi ρ' nb a (some (nb 1)) w2 q (QO R k) last->w2.cell? (Xa D 0)=some (Xp q)->D≠a->Xl 65 #[Xp (nb id),.func (.func 143) #[] #[Xp D]] w2 λe w'=>e=.returned (.tuple #[])/\QV ρ' ρ' w2 w'/\Qi ρ' nb a (some (nb 1)) w' q (rmP R (QF R R.length k 0)) last):=Qa fun ρ' w2 D a1 a2 N=>by rw [<- c];exact Qoc a1 C E m I a2 N
 have O:Hid (∀ b,(g b).isSome=true->b<w.heap.size):=Qa h.low;have P:w.heap.size≠a:=λe=>by have:=h.map.lt;omega
 have S:Hid (∀ w1,Xb w w1->(Instr.lookup 139 (.map (some a)) (Xi id) false).run Tryz.prog w1=.ok (Xp (nb id)) w1):=Qa λw1 hb=>by have:=(h.below hb).map.look H;rw [<- c,Qc4 (getElem_mem m),c] at this;exact this
 clear t;have a9:=Qa h.mrole;clear h j l c i;go_enter Tryz.func104,Tryz.ntmps104;go_wp2_with fail;generalize f:(w.alloc (.cells #[Xp q] 90)).alloc (.cells #[Xi z,Xi id,Xi pa,Xi bf,Xi A,.string tg,.string nm,.string B] 60)=o;have d:=Xu f;have aa:w.heap.size+1<o.heap.size:=by rw [<- f];simp
 have a3:=Xx f 0 (Xp q) rfl;have ac:=Xy f 1 (Xi id) rfl;have ad:=(Xh d q 1 s).trans F;have ae:=(Xh d q 0 s).trans G;have ab:=λn=>S.out (o.drewN n) (Ql d n);have a4:=λn=>K.out (o.drewN n) (Ql d n);have u:=Qa d;clear f d F G;go_big_quiet (fail);go_wp2_with fail;refine (L.out _ (Ql u.out _)).mono ?_;rintro e w2 ⟨rfl,v,p,x⟩;have y:w2.cell? (Xa w.heap.size 0)=some (Xp q):=by rw [World.cell?_of_block (p.1.block w.heap.size (by show w.heap.size<o.heap.size;omega) (λe=>by have:=O.out _ e;omega))];exact a3
 have T:=Qa (M.out v w2 w.heap.size x y P);have U:=Qa p;clear p x y;go_wp2_with (first|(go_at_call 65;refine (Qb T).mono ?_;rintro e af ⟨rfl,V,W⟩));go_ret;exact ⟨rfl,v,QV.after (Ql u.out _) (U.out.trans V),W⟩
end Go.Proofs.YtobgcaemnpkbmaaGreatDoor
