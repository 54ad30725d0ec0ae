import Derived.Test.YtobgcaemnpkbmaaGreatDoorC26
namespace Go.Proofs.YtobgcaemnpkbmaaGreatDoor
set_option maxRecDepth 100000
set_option maxHeartbeats 8000000
open Go.RowKit List
def ZI (a:List Int) (p:Int):Int:=a.getD p.toNat 0
theorem Qr6 (b:List Int) (a:List Int):Jh b a=Qco (a.map (ZI b)):=by cases a<;>rfl
theorem QsK {a:List Int} {k:Nat} (h:k<a.length):a.drop k=a.getD k 0::a.drop (k+1):=by rw [drop_eq_getElem_cons h,Xg h];rfl
theorem QuN {a:List Int} {k:Nat} {v:Int} (h:v ∈ a.drop k):∃ j,k<=j/\j<a.length/\a.getD j 0=v:=by obtain ⟨i,b,rfl⟩:=getElem_of_mem h;rw [length_drop] at b;refine ⟨k+i,by omega,by omega,?_⟩;rw [getElem_drop,Xg (by omega)];rfl
theorem Qrf {a:Qd} (h:Q8 a=true \/ Zz a=true):QbY (Jt a.t a.k a.x)=true:=by
 unfold QbY;rcases h with h|h
 ·unfold Q8 at h ⊢;simp only [Bool.and_eq_true] at h;simp only [Jt,h.1.1.1,h.1.1.2,Bool.true_and,Bool.or_eq_true];left;rw [Bool.and_eq_true];exact ⟨h.1.2,by decide⟩
 unfold Zz at h ⊢;simp only [Bool.and_eq_true] at h;simp only [Jt,h.1.1.1,h.2,Bool.true_and,Bool.or_eq_true,Bool.and_true];right;rw [Bool.and_eq_true];exact ⟨h.1.1.2,by decide⟩
structure Qb2 (T:Int->NI) (L:Nat->Qd) (br:Br) (f:Nat) (R:List RN) (id:Int) (y:NI) (ks pr:List Int) (s n:Nat) (ps:List (Nat × Nat)):Prop where
 bring:QkH T L br f
 fine:∀ i,Qdv (T i)
 piece:Qbk L s n
 parts:ps=QD L s n
 plen:pr.length=ps.length
 fuel:n<=f+1
 tag:y.tag=(L s).t
 room:R.length+n<=801
 inj:∀ i j,i<ps.length->j<ps.length->pr.getD i 0≠-1->ZI ks (pr.getD i 0)=ZI ks (pr.getD j 0)->pr.getD j 0≠-1->i=j
 key:∀ j,j<ps.length->pr.getD j 0≠-1->(T (ZI ks (pr.getD j 0))).tag=(L (s+(ps.getD j (0,0)).1)).t/\(T (ZI ks (pr.getD j 0))).key=(L (s+(ps.getD j (0,0)).1)).k
theorem Qb2.span {T:Int->NI} {L:Nat->Qd} {g:Br} {f:Nat} {R:List RN} {id:Int} {o:NI} {h i:List Int} {s n:Nat} {ps:List (Nat × Nat)} (F:Qb2 T L g f R id o h i s n ps) {k:Nat} (a:k<ps.length):Qbk L (s+(ps.getD k (0,0)).1) ((ps.getD k (0,0)).2-(ps.getD k (0,0)).1)/\(1<=(ps.getD k (0,0)).1/\(ps.getD k (0,0)).1<(ps.getD k (0,0)).2/\(ps.getD k (0,0)).2<=n)/\Q8 (L s)=true/\Zr ps k+((ps.getD k (0,0)).2-(ps.getD k (0,0)).1)+1<=n:=by
 have c:ps.getD k (0,0) ∈ ps:=by rw [Xg a];exact getElem_mem _
 have b:=c;rw [F.parts] at b;obtain ⟨j,l,m⟩:=F.piece.part (by rw [<- F.parts] at b ⊢;exact c);refine ⟨j,l,m,?_⟩;have d:Zr ps (k+1)+1<=n:=by rw [F.parts];exact Qgf _ F.piece.pos (by rw [F.parts] at a;exact a)
 rw [Zr] at d;exact d
theorem Qb2.go {T:Int->NI} {L:Nat->Qd} {g:Br} {f:Nat} {R:List RN} {id:Int} {m:NI} {i b:List Int} {s n:Nat} {ps:List (Nat × Nat)} (F:Qb2 T L g f R id m i b s n ps) {k:Nat} (y:k<ps.length) {a:List RN} {p o q:List Int} {c:Int} {r:Nat} (h:Ja T L R id m i b s ps f k (k+1) r a p (o++[c]) q) (P:r<=Zr ps k+1) {l:Int} (d:QE a l) (z:ZA a) {x:NI} (A:Qc a c=x) (u:Qdv x) (B:x.tag=(L (s+(ps.getD k (0,0)).1)).t) (C:x.key=(L (s+(ps.getD k (0,0)).1)).k) (D:∀ j,Qw (Qc a) c j->j≠c->Qc a j=T j) (v:b.getD k 0≠-1->x=T c) : ∃ R',Zv a l (g c x (s+(ps.getD k (0,0)).1) ((ps.getD k (0,0)).2-(ps.getD k (0,0)).1) l).1 R' (g c x (s+(ps.getD k (0,0)).1) ((ps.getD k (0,0)).2-(ps.getD k (0,0)).1) l).2/\Ja T L R id m i b s ps f (k+1) (k+1) (Zr ps (k+1)) R' p (o++[c]) q:=by obtain ⟨E,U,V,W⟩:=F.span y;have N:=F.room;have O:=h.size;have G:Qk a c:=Jz d.ids h.hid (by rw [h.kids];exact h.inn (.inl (by simp)));have S:=F.fuel;obtain ⟨R',H,I,J,K,X,M⟩:=F.bring a l c x _ _ d z (by omega) E G A u B C (by omega) D;refine ⟨R',H,h.brought d I J K (λe=>by rw [<- v e];exact M) ?_⟩;rw [Zr];omega
theorem Qb2.step {T:Int->NI} {L:Nat->Qd} {a3:Br} {f:Nat} {R:List RN} {id:Int} {a8:NI} {d l:List Int} {s n:Nat} {ps:List (Nat × Nat)} (F:Qb2 T L a3 f R id a8 d l s n ps) {k:Nat} (C:k<ps.length) {g:List RN} {ad aj:List Int} {q:KS} (h:Ja T L R id a8 d l s ps f k k (Zr ps k) g ad aj (q.stay.map (ZI d))) (o:QE g q.last) (ay:ZA g) (a0:q.stay.Sublist (l.drop k)) (aJ:∀ v,v ∈ q.stay->v≠-1) (aT:∀ i,Qk R i->i<=q.last) : ∃ R' aY aR P,(QaZ a3 T L id d s q (ps.getD k (0,0)) (l.getD k 0)).pats=q.pats++P/\Zv g q.last P R' (QaZ a3 T L id d s q (ps.getD k (0,0)) (l.getD k 0)).last/\Ja T L R id a8 d l s ps f (k+1) (k+1) (Zr ps (k+1)) R' aY aR ((QaZ a3 T L id d s q (ps.getD k (0,0)) (l.getD k 0)).stay.map (ZI d))/\(QaZ a3 T L id d s q (ps.getD k (0,0)) (l.getD k 0)).stay.Sublist (l.drop (k+1)):=by
 have z:=o.ids;have H:=h.kids;have aZ:k<l.length:=by rw [F.plen];exact C
 have aK:=QsK aZ;obtain ⟨b1,b7,b2,b8⟩:=F.span C;have b4:=F.room;have b5:=h.size;have ak:∀ c,c=ZI d (l.getD k 0)->l.getD k 0≠-1->∀ j,k<j->j<ps.length->l.getD j 0≠-1->d.getD (l.getD j 0).toNat 0≠c:=λc G ae j aP B U e=>by have:=F.inj j k B C U (by rw [<- G];exact e) ae;omega
 have aE:(Qc g id).tag.toList.isEmpty=false:=by rw [h.ni];show a8.tag.toList.isEmpty=false;rw [F.tag];exact (Qeu b2).1
 by_cases D:q.stay.head?=some (l.getD k 0)
 · -- it stays
  cases u:q.stay with
  | nil=>rw [u] at D;cases D
  | cons p t =>
   have az:p=l.getD k 0:=by rw [u] at D;simpa using D
   have y:l.getD k 0≠-1:=by rw [<- az];exact aJ p (by rw [u];simp)
   rw [QeW D];have b3:Ja T L R id a8 d l s ps f k k (Zr ps k) g ad aj (ZI d (l.getD k 0)::t.map (ZI d)):=by have B:=h;rw [u,map_cons,az] at B;exact B
   have J:=b3.stay rfl (ak _ rfl y);obtain ⟨af,aA,V⟩:=h.pend k (Nat.le_refl _) C y;have O:=F.key k C y;obtain ⟨R',a4,a5⟩:=F.go C J (Nat.le_succ _) o ay (V _ (.self _)) (F.fine _) O.1 O.2 (λj a6 _=>V j a6) (λ_=>rfl);refine ⟨R',ad,aj++[ZI d (l.getD k 0)],_,rfl,a4,?_,?_⟩
   ·show Ja _ _ _ _ _ _ _ _ _ _ _ _ _ _ _ _ (q.stay.tail.map (ZI d));rw [u];exact a5
   show q.stay.tail.Sublist _;rw [u];rw [u,aK,az] at a0;exact (cons_sublist_cons.1 a0)
 -- it does not
 have al:q.stay.Sublist (l.drop (k+1)):=by rw [aK] at a0;cases u:q.stay with| nil=>exact nil_sublist _| cons a t =>rw [u] at a0 D;cases a0 with| cons _ B=>exact B| cons_cons _ B=>exact absurd rfl D
 have ab:Jh d q.stay=Qco (q.stay.map (ZI d)):=Qr6 d q.stay;have ao:∀ b,b ∈ q.stay.map (ZI d)->b ∈ ad:=λb hb=>h.inn (.inr hb);by_cases y:l.getD k 0=-1
 · -- a new one
  rw [QeL D y];generalize G:q.last+1=c;generalize au:L (s+(ps.getD k (0,0)).1)=r;have aF:Q8 r=true \/ Zz r=true:=by have:=b1.node 0 (by omega);rw [Nat.add_zero,au] at this;exact this
  have b6:=o.last_pos;have I:¬ Qk g c:=λ⟨m,J,e⟩=>by have:=o.top m J;omega
  have aU:¬ Qk R c:=λe=>by have:=aT c e;omega
  obtain ⟨ag,ah,aB⟩:=Qpp (R:=g) (last:=q.last) (by omega) (Qrf aF);rw [G] at ag ah aB;have X:=o.did ag;rw [ah,aB] at X;have aL:=ay.did z ag;rw [ah] at aL;have a1:=X.ids;generalize ac:g++[QfP ⟨1,c,0,0,r.k,r.t,⟨#[]⟩,r.x⟩]=K at *;have a9:∀ i,Qk K i↔Qk g i \/ i=c:=λi=>by rw [<- ac];exact Qpj g _ i
  have aa:∀ i,Qk g i->Qc K i=Qc g i:=λi A=>by rw [<- ac] at a1 ⊢;exact Qqw a1 z rfl A
  have aG:Qc K c=⟨r.k,r.t,r.x,[],[]⟩:=by rw [<- ac] at a1 ⊢;exact Qo5 o a1 rfl G.symm
  have E:Qk K c:=(a9 c).2 (.inr rfl);have ap:Qk K id:=(a9 id).2 (.inl h.hid);have aH:id≠c:=λe=>I (by rw [<- e];exact h.hid);have aq:Jh d q.stay=0 \/ (Jh d q.stay≠c/\Jh d q.stay ∈ (Qc K id).kids):=by rw [ab,aa id h.hid,H];cases u:q.stay with| nil=>exact .inl rfl| cons a t =>have a2:=ao (ZI d a) (by rw [u];simp);refine .inr ⟨λe=>?_,a2⟩;have e:ZI d a=c:=e;rw [e] at a2;exact I (Jz z h.hid (by rw [H];exact a2))
  obtain ⟨M,ai,W,a7,aC⟩:=QlI X E (by omega) ap (by rw [aa id h.hid];exact aE) aq (Qkk X ap E λe=>by
   rcases Jo.1 e with e|⟨b,hb,_⟩
   ·exact aH e
   rw [aG] at hb;cases hb)
  have Y:=X.did M;rw [a7] at Y;have av:=aL.did a1 M;generalize aw:QU K ⟨2,c,id,Jh d q.stay,0,⟨#[]⟩,⟨#[]⟩,⟨#[]⟩⟩=Ri at *;have aV:∀ i,Qk g i->c ∉ (Qc g i).kids:=λi A b0=>I (Jz z A b0);have aW:∀ i,Qk g i->(Qc g i).kids.filter (λj=>j !=c)=(Qc g i).kids:=λi A=>by
   rw [filter_eq_self];intro b hb;have:b≠c:=λe=>by rw [e] at hb;exact aV i A hb
   simpa using this
  have hni_c:Qc Ri c=⟨r.k,r.t,r.x,[],[]⟩:=by rw [W c E,aG,if_neg (λe=>aH e.symm)];rfl
  have J:=h.put (Ri:=Ri) (c:=c) o (λi=>(ai i).trans (a9 i)) (λi A S=>by
   rw [W i ((a9 i).2 (.inl A)),if_neg S,aa i A,aW i A]) (by
   rw [W id ap,if_pos rfl,aa id h.hid,h.ni,ab]) (.inr ⟨I,aU,by rw [hni_c],y⟩) (λe=>I (Jz z h.hid (by rw [H];exact h.inn (.inl e)))) (λe=>I (Jz z h.hid (by rw [H];exact ao _ e))) (λj aP B U e=>I (by
    rw [<- e];exact Jz z h.hid (by rw [H];exact (h.pend j (by omega) B U).1))) (λe=>absurd (Jz z h.hid (by rw [H];exact e)) I) (sz':=Zr ps k+1) (by
    rw [aC,<- ac,length_append];show _+1<=_;omega)
  have aS:Qdv ⟨r.k,r.t,r.x,[],[]⟩:=by
   refine ⟨List.Pairwise.nil,λe=>?_,λ_=>rfl⟩;rcases aF with aD|aD
   ·exact (Qeu aD).2
   have:=(QeG aD).1;rw [show r.t.toList.isEmpty=false from e] at this;cases this
  obtain ⟨R',a4,a5⟩:=F.go C J (Nat.le_refl _) Y av hni_c aS (by rw [au]) (by rw [au]) (λj a6 S=>by
   rcases Jo.1 a6 with e|⟨b,hb,_⟩
   ·exact absurd e S
   rw [hni_c] at hb;cases hb) (λe=>absurd y e)
  refine ⟨R',_,_,_,by simp only [append_assoc];rfl,?_,a5,al⟩;refine Zv.app (P:=[_]) (Zv.one ag) ?_;rw [ah,aB];refine Zv.app (P:=[_]) (Zv.one M) ?_;rw [aw,a7];exact a4
 -- an old one
 rw [Qey D y];generalize G:ZI d (l.getD k 0)=c;have ax:d.getD (l.getD k 0).toNat 0=c:=G;rw [ax];obtain ⟨af,aA,V⟩:=h.pend k (Nat.le_refl _) C y;rw [ax] at af aA V;have N:c ∈ (Qc g id).kids:=by rw [H];exact af
 have E:=Jz z h.hid N;have aM:c ∉ q.stay.map (ZI d):=λe=>by obtain ⟨v,aQ,aN⟩:=mem_map.1 e;obtain ⟨j,aP,B,U⟩:=QuN (al.subset aQ);rw [<- U] at aN;exact ak c G.symm y j (by omega) (by rw [<- F.plen];exact B) (by rw [U];exact aJ v aQ) aN
 have aq:Jh d q.stay=0 \/ (Jh d q.stay≠c/\Jh d q.stay ∈ (Qc g id).kids):=by rw [ab,H];cases u:q.stay with| nil=>exact .inl rfl| cons a t =>have a2:=ao (ZI d a) (by rw [u];simp);refine .inr ⟨λe=>aM ?_,a2⟩;have e:ZI d a=c:=e;rw [u,<- e];simp
 obtain ⟨M,ai,W,a7,aC⟩:=QlI o E (QjL o h.hid N) h.hid aE aq (Qkk o h.hid E (Qcy o h.hid N));have Y:=o.did M;rw [a7] at Y;have av:=ay.did z M;generalize aw:QU g ⟨2,c,id,Jh d q.stay,0,⟨#[]⟩,⟨#[]⟩,⟨#[]⟩⟩=Ri at *;have ar:∀ i,Qk g i->i≠id->Qc Ri i=Qc g i:=λi A S=>by
  rw [W i A,if_neg S];have:(Qc g i).kids.filter (λj=>j !=c)=(Qc g i).kids:=by
   rw [filter_eq_self];intro b hb;have:b≠c:=λe=>by rw [e] at hb;exact S (Qfy z A h.hid hb N)
   simpa using this
  rw [this]
 have J:=h.put (Ri:=Ri) (c:=c) o (λi=>⟨λe=>.inl ((ai i).1 e),λe=>(ai i).2 (e.elim (λe=>e) λe=>by rw [e];exact E)⟩) ar (by rw [W id h.hid,if_pos rfl,h.ni,ab]) (.inl ⟨af,λ_=>ax.symm⟩) aA aM (ak c G.symm y) (λ_=>y) (sz':=Zr ps k+1) (by rw [aC];omega);have aX:c≠id:=λe=>Qcy o h.hid N (by rw [e];exact .self _);have aI:∀ p,Qw (Qc g) c p->Qc Ri p=Qc g p:=λp ae=>ar p (Qa9 z E ae) λe=>by subst e;exact Qcy o h.hid N ae
 have O:=F.key k C y;rw [G] at O;obtain ⟨R',a4,a5⟩:=F.go C J (Nat.le_refl _) Y av (by rw [ar c E aX];exact V c (.self _)) (F.fine c) O.1 O.2 (λj a6 _=>by have aO:=a6.back aI;rw [aI j aO];exact V j aO) (λ_=>rfl);refine ⟨R',_,_,_,by simp only [append_assoc];rfl,?_,a5,al⟩;refine Zv.app (P:=[_]) (Zv.one M) ?_;rw [aw,a7];exact a4
theorem Qty {l m:List Int} (h:l.Sublist m) (f:m.Nodup):m.filter (λb=>l.contains b)=l:=by
 induction h with
 | slnil=>rfl
 | @cons l m a h ih =>
  obtain ⟨c,d⟩:=nodup_cons.1 f;have:l.contains a=false:=by have:a ∉ l:=λe=>c (h.subset e);simpa using this
  rw [filter_cons_of_neg (by rw [this];simp)];exact ih d
 | @cons_cons l m a h ih =>
  obtain ⟨c,d⟩:=nodup_cons.1 f;rw [filter_cons_of_pos (by simp)];congr 1
  refine (filter_congr λb hb=>?_).trans (ih d);have:b≠a:=λe=>by subst e;exact c hb
  simp [this]
theorem QpZ (a:List Int):(List.range a.length).map (λj=>a.getD j 0)=a:=by refine ext_getElem (by simp) λi c b=>?_;simp [b]
theorem Qpk {d f:List Int} (g:∀ v,v ∈ ZV f->∃ p:Nat,v=(p:Int)/\p<d.length):((ZV f).map (ZI d)).Sublist d:=by
 have k:=(QlV f).1;have l:((ZV f).map Int.toNat).Pairwise (λa b=>a<b):=by rw [pairwise_map];refine k.imp_of_mem fun {a b} h hb r=>?_;obtain ⟨p,rfl,_⟩:=g a h;obtain ⟨q,rfl,_⟩:=g b hb;simp only [Int.toNat_natCast];omega
 have m:((ZV f).map Int.toNat).Sublist (List.range d.length):=QcA (lt:=λa b:Nat=>a<b) (λa=>Nat.lt_irrefl a) (λa b c=>Nat.lt_trans) _ _ l pairwise_lt_range λa h=>by obtain ⟨v,n,rfl⟩:=mem_map.1 h;obtain ⟨p,rfl,o⟩:=g v n;simpa using o
 have i:=m.map (λj=>d.getD j 0);rw [QpZ,map_map] at i;exact i
theorem QoX {T:Int->NI} {L:Nat->Qd} {R l:List RN} {last:Int} (h:QE R last) {id:Int} (x:Qk R id) {J:NI} (X:Qc R id=J) {a d:List Int} (a4:J.kids=a) (a6:∀ j,Qw (Qc R) id j->j≠id->Qc R j=T j) (K:∀ v,v ∈ d->v=-1 \/ ∃ p:Nat,v=(p:Int)/\p<a.length) (G:∀ i,Qk l i↔Qk R i/\∀ c,ZJ a d a.length c=true->¬ Qw (Qc R) c i) (Y:∀ i,Qk l i->i≠id->Qc l i=Qc R i) (a7:Qk l id) (a0:Qc l id={ Qc R id with kids:=a.filter (λc=>!ZJ a d a.length c) }) (ae:l.length<=R.length) (s f:Nat) (ps:List (Nat × Nat)) (ac:d.length=ps.length) : Ja T L R id J a d s ps f 0 0 0 l (a.filter (λc=>!ZJ a d a.length c)) [] ((ZV d).map (ZI a)):=by
 have H:=h.ids;have C:(Qc R id).kids=a:=by rw [X,a4]
 have O:a.Nodup:=by rw [<- C];exact QdH H x
 have r:∀ b,b ∈ a->b ∈ (Qc R id).kids:=λb hb=>by rw [C];exact hb
 have P:∀ p:Nat,p<a.length->(p:Int) ∈ d->ZJ a d a.length (a.getD p 0)=false:=λp g m=>by
  cases e:ZJ a d a.length (a.getD p 0) with
  | false=>rfl
  | true =>
   obtain ⟨j,k,q,u⟩:=Qfr.1 e;have:=QiI O k g q;subst this;have:d.contains (j:Int)=true:=by simpa using m
   rw [this] at u;cases u
 have N:∀ c,ZJ a d a.length c=true->c ∈ a:=λc o=>by obtain ⟨j,k,q,_⟩:=Qfr.1 o;rw [<- q];exact Qb5 k
 have S:∀ v,v ∈ ZV d->∃ p:Nat,v=(p:Int)/\p<a.length:=λv B=>by obtain ⟨q,u⟩:=Qfz B;exact (K v q).resolve_left u
 have D:∀ b,b ∈ a->ZJ a d a.length b=false->∀ p,Qw (Qc R) b p->Qk l p/\Qc l p=Qc R p:=λb hb t p g=>by have a1:Qk l p:=(G p).2 ⟨Qa9 H (Jz H x (r b hb)) g,λc o n=>QhR h x (r c (N c o)) (r b hb) (λe=>by rw [e,t] at o;cases o) n g⟩;exact ⟨a1,Y p a1 λe=>by subst e;exact Qcy h x (r b hb) g⟩
 have E:∀ b,b ∈ a->ZJ a d a.length b=false->∀ j,Qw (Qc l) b j↔Qw (Qc R) b j:=λb hb t j=>⟨λe=>e.back λp g=>(D b hb t p g).2,λe=>e.keep λp g=>(D b hb t p g).2⟩;have M:(Qc l id).kids=a.filter (λc=>!ZJ a d a.length c):=by rw [a0]
 refine ⟨a7,by rw [a0,X],rfl,?_,λb hb=>?_,λj _ ad a5=>?_,λj k=>absurd k (Nat.not_lt_zero _),λj k=>absurd k (Nat.not_lt_zero _),λj k=>absurd k (Nat.not_lt_zero _),λj k I=>?_,λj k=>?_,by omega⟩
 ·rw [nil_append,filter_filter];refine (filter_congr λb hb=>?_).trans (Qty (Qpk S) O);cases e:((ZV d).map (ZI a)).contains b with
  | false=>simp
  | true =>
   have m:b ∈ (ZV d).map (ZI a):=by simpa using e
   obtain ⟨v,B,rfl⟩:=mem_map.1 m;obtain ⟨p,rfl,g⟩:=S v B;have:=P p g (Qfz B).1;have u:ZI a (p:Int)=a.getD p 0:=by unfold ZI;rw [Int.toNat_natCast]
   rw [u,this];rfl
 ·right;obtain ⟨y,z⟩:=mem_filter.1 hb;obtain ⟨p,g,rfl⟩:=getElem_of_mem y;have e:a.getD p 0=a[p]:=by rw [Xg g];rfl
  cases o:d.contains (p:Int) with
  | false =>have:ZJ a d a.length a[p]=true:=Qfr.2 ⟨p,g,e,o⟩;rw [this] at z;cases z
  | true =>
   have m:(p:Int) ∈ d:=by simpa using o
   obtain ⟨j,k,a8⟩:=getElem_of_mem m;have U:d.getD j 0=(p:Int):=by rw [Xg k];exact a8
   exact ⟨j,Nat.zero_le _,by omega,by rw [U];omega,by rw [U,Int.toNat_natCast,e]⟩
 ·have V:d.getD j 0 ∈ d:=Qb5 (by omega);obtain ⟨p,a2,g⟩:=(K _ V).resolve_left a5;rw [a2,Int.toNat_natCast];have t:=P p g (by rw [<- a2];exact V);have m:=Qb5 g;refine ⟨mem_filter.2 ⟨m,by rw [t];rfl⟩,by simp,λi a9=>?_⟩;have F:=(E _ m t i).1 a9;rw [(D _ m t i F).2];exact a6 i (Jo.2 (.inr ⟨_,r _ m,F⟩)) λe=>by subst e;exact Qcy h x (r _ m) F
 ·have W:j≠id:=λe=>I (by rw [e];exact .self _);have a3:Qk l j:=(G j).2 ⟨k,λc o n=>I (Jo.2 (.inr ⟨c,r c (N c o),n⟩))⟩;refine ⟨a3,Y j a3 W,λe=>?_⟩;rcases Jo.1 e with q|⟨b,hb,n⟩
  ·exact W q
  rw [M] at hb;obtain ⟨y,z⟩:=mem_filter.1 hb;have A:ZJ a d a.length b=false:=by simpa using z
  exact I (Jo.2 (.inr ⟨b,r b y,(E b y A j).1 n⟩))
 obtain ⟨aa,ab⟩:=(G j).1 k;by_cases n:Qw (Qc R) id j
 ·right;rcases Jo.1 n with q|⟨b,hb,n⟩
  ·rw [q];exact .self _
  rw [C] at hb;have A:ZJ a d a.length b=false:=by cases e:ZJ a d a.length b with| false=>rfl| true=>exact absurd n (ab b e)
  exact Jo.2 (.inr ⟨b,by rw [M];exact mem_filter.2 ⟨hb,by rw [A];rfl⟩,(E b hb A j).2 n⟩)
 exact .inl ⟨aa,n⟩
theorem Qb2.all {T:Int->NI} {L:Nat->Qd} {c:Br} {f:Nat} {R:List RN} {id:Int} {h:NI} {a b:List Int} {s n:Nat} {ps:List (Nat × Nat)} (F:Qb2 T L c f R id h a b s n ps) {last:Int} {q0:KS} {d:List RN} {p:List Int} (l:Zv R last q0.pats d q0.last) (u:Ja T L R id h a b s ps f 0 0 0 d p [] (q0.stay.map (ZI a))) (q:QE d q0.last) (x:ZA d) (r:q0.stay.Sublist b) (t:∀ v,v ∈ q0.stay->v≠-1) (m:∀ i,Qk R i->i<=q0.last) (j:∀ k,k<=ps.length->q0.last<=(Jn c T L id a s ps b q0 k).last) : ∀ k,k<=ps.length->∃ g y o,Zv R last (Jn c T L id a s ps b q0 k).pats g (Jn c T L id a s ps b q0 k).last/\Ja T L R id h a b s ps f k k (Zr ps k) g y o ((Jn c T L id a s ps b q0 k).stay.map (ZI a))/\QE g (Jn c T L id a s ps b q0 k).last/\ZA g/\(Jn c T L id a s ps b q0 k).stay.Sublist (b.drop k)| 0,_=>⟨d,p,[],l,u,q,x,by rw [drop_zero];exact r⟩| k+1,hk=>by obtain ⟨g,y,o,E,G,z,A,H⟩:=Qb2.all F l u q x r t m j k (by omega);obtain ⟨R',D,C,P,I,B,J,K⟩:=F.step (by omega) G z A H (λv M=>t v (Qhu c T L id a s ps b q0 k v M)) (λi N=>by have:=m i N;have:=j k (by omega);omega);obtain ⟨O,S⟩:=B.ok z A;refine ⟨R',D,C,?_,J,O,S,K⟩;show Zv R last (QaZ c T L id a s (Jn c T L id a s ps b q0 k) (ps.getD k (0,0)) (b.getD k 0)).pats R' _;rw [I];exact E.app B
theorem Ja.done {T:Int->NI} {L:Nat->Qd} {R:List RN} {id:Int} {x:NI} {q r:List Int} {s:Nat} {ps:List (Nat × Nat)} {f u:Nat} {m:List RN} {l:Int} {c d g:List Int} (h:Ja T L R id x q r s ps f ps.length ps.length u m c d g) (p:QE m l):c=d:=by
 have k:c.Nodup:=by rw [<- h.kids];exact QdH p.ids h.hid
 have i:∀ b,b ∈ c->b ∈ d:=λb hb=>by
  rcases h.mem b hb with e|⟨j,y,z,_⟩
  ·exact e
  omega
 have v:c.filter (λb=>d.contains b||g.contains b)=c:=by
  rw [filter_eq_self];intro b hb;have:d.contains b=true:=by simpa using i b hb
  rw [this];rfl
 have n:c=d++g:=by rw [<- h.filt,v]
 cases o:g with| nil=>rw [n,o,append_nil]| cons a t =>exfalso;rw [n,o] at k i;exact (nodup_append.1 k).2.2 a (i a (by simp)) a (by simp) rfl
theorem Qw.kin {T a:Int->NI} {i j:Int} (h:Qw T i j) (b:∀ p,Qw T i p->(a p).kids=(T p).kids):Qw a i j:=by induction h with| self=>exact .self _| @step i k j c _ ih =>refine .step (k:=k) (by rw [b i (.self _)];exact c) (ih λp d=>b p (.step c d))
theorem Qw.kinb {T a:Int->NI} {i j:Int} (h:Qw a i j) (b:∀ p,Qw T i p->(a p).kids=(T p).kids):Qw T i j:=by
 induction h with
 | self=>exact .self _
 | @step i k j d _ ih =>
  have c:k ∈ (T i).kids:=by rw [<- b i (.self _)];exact d
  exact .step c (ih λp f=>b p (.step c f))
theorem Quy (T:Int->NI) (L:Nat->Qd) (a:List Int) (s:Nat) (ps:List (Nat × Nat)) {j:Nat} (b:j<ps.length):(Jb T L a s ps).getD j 0=Qa8 (λj=>((T (a.getD j 0)).tag,(T (a.getD j 0)).key)) a.length (λj=>((L (s+(ps.getD j (0,0)).1)).t,(L (s+(ps.getD j (0,0)).1)).k)) j:=by unfold Jb J3;rw [getD_eq_getElem?_getD,getElem?_map,getElem?_range b];rfl
theorem QkF {T:Int->NI} {L:Nat->Qd} (a4:∀ i,Qdv (T i)) (O:∀ i,(T i).kids.length<=1000/\(T i).ats.length<=5):∀ f,QkH T L (QaE T L f) f
 | 0=>λ_ _ _ _ _ _ _ _ aS aA=>by have:=aA.pos;omega
 | f+1=>λR last id x s n P aa a5 u B ab al K aj ai aB=>by
  have W:=P.ids;have a1:=u.node 0 u.pos;rw [Nat.add_zero] at a1;obtain ⟨l,ac,h⟩:=QmS P aa B ab al a1 K;obtain ⟨A,ao⟩:=ac.ok P aa;have M:=(h.has id).2 B;have a3:∀ p,Qk R p->(Qc l p).kids=(Qc R p).kids:=λp o=>by
   by_cases e:p=id
   ·rw [e,h.at',ab]
   rw [h.rest p o e]
  have S:∀ j,Qw (Qc l) id j↔Qw (Qc R) id j:=λj=>⟨λe=>e.kinb λp o=>a3 p (Qa9 W B o),λe=>e.kin λp o=>a3 p (Qa9 W B o)⟩;have ap:∀ j,Qw (Qc l) id j->j≠id->Qc l j=T j:=λj d E=>by have a6:=(S j).1 d;rw [h.rest j (Qa9 W B a6) E];exact aB j a6 E
  generalize X:({ x with text:=(L s).x,ats:=Zn (L s) }:NI)=a0 at *;have a7:a0.kids=x.kids:=by rw [<- X]
  have a8:(Qc l id).kids=x.kids:=by rw [h.at',a7]
  have aq:x.kids.Nodup:=by rw [<- a8];exact QdH A.ids M
  generalize y:QD L s n=ps at *;generalize C:Jb T L x.kids s ps=b at *;have a2:b.length=ps.length:=by rw [<- C];exact Qjh ..
  have J:∀ v,v ∈ b->v=-1 \/ ∃ p:Nat,v=(p:Int)/\p<x.kids.length:=λv F=>by
   rw [<- C] at F;rcases Qho F with e|⟨G,Y⟩
   ·exact .inl e
   exact .inr ⟨v.toNat,by omega,by omega⟩
  have N:∀ j,j<ps.length->b.getD j 0=Qa8 (λj=>((T (x.kids.getD j 0)).tag,(T (x.kids.getD j 0)).key)) x.kids.length (λj=>((L (s+(ps.getD j (0,0)).1)).t,(L (s+(ps.getD j (0,0)).1)).k)) j:=λj d=>by rw [<- C];exact Quy T L x.kids s ps d
  obtain ⟨aC,ad,aD,aE,aF,aG,aH,aI⟩:=Qj9 A M a8 b x.kids.length (Nat.le_refl _);obtain ⟨_,ar⟩:=ad.ok A ao;have au:Ja T L l id a0 x.kids b s ps f 0 0 0 aC (x.kids.filter (λc=>!ZJ x.kids b x.kids.length c)) [] ((ZV b).map (ZI x.kids)):=QoX A M h.at' a7 ap J aE aF aG aH aI s f ps a2;have ak:=Qek (L:=L) O f;have av:Qb2 T L (QaE T L f) f l id a0 x.kids b s n ps:=by
   refine ⟨QkF a4 O f,a4,u,y.symm,a2,a5,by rw [<- X];exact K,by rw [h.len];exact ai,λi j D d aw e U=>?_,λj d U=>?_⟩
   ·have ax:b.getD i 0 ∈ b:=Qb5 (by omega);have ay:b.getD j 0 ∈ b:=Qb5 (by omega);obtain ⟨p,ae,o⟩:=(J _ ax).resolve_left aw;obtain ⟨q,af,aJ⟩:=(J _ ay).resolve_left U;unfold ZI at e;rw [ae,af,Int.toNat_natCast,Int.toNat_natCast] at e;have:=QiI aq o aJ e;subst this;exact QsQ ((N i D).symm.trans ae) ((N j d).symm.trans af) (by omega)
   obtain ⟨p,G,Y,H,_⟩:=Qg7 (N j d).symm U;unfold ZI;rw [G,Int.toNat_natCast];have H:=Prod.ext_iff.1 H;exact ⟨H.1.symm,H.2.symm⟩
  have az:Qcb (QaE T L f) T L id x s n last=((Jn (QaE T L f) T L id x.kids s ps b ⟨ZY (λj=>x.kids.getD j 0) b x.kids.length,ZV b,last⟩ ps.length).pats,(Jn (QaE T L f) T L id x.kids s ps b ⟨ZY (λj=>x.kids.getD j 0) b x.kids.length,ZV b,last⟩ ps.length).last):=by unfold Qcb;simp only [y,C]
  obtain ⟨I,z,aQ,aK,g,aL,aT,_⟩:=av.all (q0:=⟨ZY (λj=>x.kids.getD j 0) b x.kids.length,ZV b,last⟩) ad au aD ar (QlV b).2 (λv F=>(Qfz F).2) (λi D=>by obtain ⟨m,aM,rfl⟩:=D;exact A.top m aM) (λk r=>(QfV ak O id x.kids s n a5 (λi D=>(Qa0 (u.node i D)).1) ps (λa ag=>Qcj u.pos (by rw [<- y] at ag;exact ag)) b _ k r).2.1) ps.length (Nat.le_refl _);have V:=g.done aL;have aR:Zr ps ps.length+1<=n:=by rw [<- y];exact Qgf _ u.pos (Nat.le_refl _)
  refine ⟨I,?_,?_,λj d ah=>?_,λj d=>?_,?_,?_⟩
  ·show Zv R last (JG id x (L s)++QaG id x (L s)++(Qcb (QaE T L f) T L id x s n last).1) I (Qcb (QaE T L f) T L id x s n last).2;rw [az];exact ac.app aK
  ·unfold Jm;rw [g.ni,y];rw [<- X];refine ⟨g.hid,K,aj,rfl,rfl,?_,λk r=>?_⟩
   ·show z.length=ps.length;rw [V];exact g.len
   show Jm I L f (z.getD k 0) _ _;rw [V];exact g.tree k r
  ·have E:j≠id:=λe=>ah (by rw [e];exact .self _);obtain ⟨aN,aO,aP⟩:=g.frame j ((h.has j).2 d) (λe=>ah ((S j).1 e));exact ⟨aN,aO.trans (h.rest j d E),aP⟩
  ·rcases g.cover j d with ⟨G,Y⟩|e
   ·exact .inl ⟨(h.has j).1 G,λe=>Y ((S j).2 e)⟩
   exact .inr e
  ·have:=g.size;have:=h.len;omega
  unfold Qba;rw [y,C,g.ni];intro k r a9;show z.getD k 0=_/\z.getD k 0 ∈ z/\Qba I T L f (z.getD k 0) _ _ _;rw [V];exact ⟨g.pairs k r a9,Qb5 (by rw [g.len];exact r),g.keeps k r a9⟩
structure Qjf (R:List RN) (w:Nat × Int) (ln:Qd):Prop where
 lt:w.1<R.length
 d:w.2=ln.d
 tag:(nth R w.1).tag=ln.t
 key:(nth R w.1).key=ln.k
 text:(nth R w.1).text=ln.x
 ats:(nth R w.1).ats=Zn ln
def QaK (R:List RN) (L:Nat->Qd):List (Nat × Int)->Nat->Prop
 | [],_=>True
 | w::W,s=>Qjf R w (L s)/\QaK R L W (s+1)
theorem QaK.app {R:List RN} {L:Nat->Qd}:∀ {a b:List (Nat × Int)} {s:Nat},QaK R L a s->QaK R L b (s+a.length)->QaK R L (a++b) s| [],_,_,_,h=>by simpa using h| w::a,b,s,⟨h1,h2⟩,h=>⟨h1,QaK.app h2 (by rw [show s+1+a.length=s+(w::a).length by simp;omega];exact h)⟩
theorem QaK.get {R:List RN} {L:Nat->Qd}:∀ {a:List (Nat × Int)} {s:Nat},QaK R L a s->∀ i,(b:i<a.length)->Qjf R a[i] (L (s+i))| w::a,s,⟨h1,_⟩,0,_=>h1| w::a,s,⟨_,h2⟩,i+1,b=>by have:=QaK.get h2 i (by simpa using b);rw [show s+1+i=s+(i+1) by omega] at this;simpa using this
theorem Ql7 {R:List RN} {L:Nat->Qd} {s n:Nat} (F:Nat->List (Nat × Int)):∀ (a:List Nat) (ps:List (Nat × Nat)) (b:Nat),Qac ps b n->a.length=ps.length->(∀ k,(v:k<a.length)->(g:k<ps.length)->QaK R L (F a[k]) (s+ps[k].1)/\(F a[k]).length=ps[k].2-ps[k].1)->QaK R L (a.flatMap F) (s+b)/\(a.flatMap F).length=n-b
 | [],[],b,ht,_,_=>by have e:b=n:=ht;subst e;exact ⟨trivial,by simp⟩| [],_::_,_,_,hl,_=>by simp at hl| _::_,[],_,_,hl,_=>by simp at hl
 | k::a,p::ps,b,⟨h1,h2,h3⟩,hl,h=>by
  obtain ⟨f,d⟩:=h 0 (by simp) (by simp);simp only [getElem_cons_zero] at f d;obtain ⟨i,m⟩:=Ql7 F a ps p.2 h3 (by simpa using hl) λj o g=>by have:=h (j+1) (by simpa using o) (by simpa using g);simpa using this
  have u:p.2<=n:=by
   clear i m h f d hl h2 h1;have key:∀ (l:List (Nat × Nat)) (c:Nat),Qac l c n->c<=n:=by
    intro l;induction l with
    | nil=>intro c r;exact Nat.le_of_eq r
    | cons q l ih=>intro c ⟨x,y,t⟩;have:=ih _ t;omega
   exact key ps p.2 h3
  rw [flatMap_cons];refine ⟨QaK.app (by rw [<- h1];exact f) ?_,by rw [length_append,d,m];omega⟩;rw [d,show s+b+(p.2-p.1)=s+p.2 by omega];exact i
theorem Qir {R:List RN} (c:Qp R) {L:Nat->Qd}:∀ (f g a:Nat) (s n:Nat),Qbk L s n->Jm R L f (Qj R a) s n->ZP R g a->QaK R L (QF R g a (L s).d) s/\(QF R g a (L s).d).length=n
 | 0,_,_,_,_,_,h,_=>h.elim| f+1,0,_,_,_,_,_,h=>h.elim
 | f+1,g+1,a,s,n,hpc,⟨h1,h2,h3,h4,h5,h6,h7⟩,⟨ha,hk⟩=>by
  have r:=QS ha;have b:=Qce c ha;rw [<- r] at b;have u:Qj R a≠0:=by have:=Qbf c h1;omega
  have j:(Qy R (Qj R a)).map (Qj R)=(Qc R (Qj R a)).kids:=by rw [Qc0 c h1,Qck R u]
  have q:(Qy R (Qj R a)).length=(QD L s n).length:=by rw [<- h6,<- j,length_map]
  rw [QF];have t:2<=n->(L (s+1)).d=(L (s+0)).d+1:=λA=>by have B:=hpc.deep 1 (by omega) (by omega);have v:=hpc.step 0 (by omega);simp only [Nat.add_zero] at v ⊢;omega
  obtain ⟨w1,w2⟩:=Ql7 (R:=R) (L:=L) (s:=s) (λk=>QF R g k ((L s).d+1)) (Qy R (Qj R a)) (QD L s n) 1 (Qem _ hpc.pos) q λk l i=>by
   have m:(QD L s n)[k] ∈ QD L s n:=getElem_mem i;have x:(QD L s n).getD k (0,0)=(QD L s n)[k]:=by rw [Xg i];rfl
   have o:=h7 k i;have y:(Qc R (Qj R a)).kids.getD k 0=Qj R (Qy R (Qj R a))[k]:=by rw [<- j,getD_eq_getElem?_getD,getElem?_map,getElem?_eq_getElem l];rfl
   rw [y,x] at o;obtain ⟨z,C,_⟩:=hpc.part m;have p:=(QeM hpc.pos t m).1;rw [Nat.add_zero] at p;have:=Qir c f g (Qy R (Qj R a))[k] _ _ z o (hk _ (getElem_mem l));rw [p] at this;exact this
  refine ⟨⟨⟨ha,rfl,?_,?_,?_,?_⟩,w1⟩,?_⟩
  ·rw [QaM ha];rw [b] at h2;exact h2
  ·rw [QaM ha];rw [b] at h3;exact h3
  ·rw [QaM ha];rw [b] at h4;exact h4
  ·rw [QaM ha];rw [b] at h5;exact h5
  rw [length_cons,w2];have:=hpc.pos;omega
theorem Qjt (A:Nat->ByteArray × Int):∀ n j,j<n->J4 A n ⟨(A j).1,(A j).2,Zf A (A j) j⟩=some (j:Int)
 | 0,j,h=>by omega
 | n+1,j,h=>by
  rw [J4];unfold Qah;by_cases e:j=n
  ·subst e;rw [if_pos rfl]
  rw [if_neg,Qjt A n j (by omega)];intro a;rw [LK.mk.injEq] at a;have b:A j=A n:=Prod.ext a.1 a.2.1;have:=Qf5 (A:=A) (x:=A n) (i:=j) (j:=n) (by omega) b;have c:=a.2.2;rw [b] at c;omega
theorem Qft {L:Nat->Qd} {n:Nat} (d:0<n) (h:∀ i,i<n->QQ L i=true):Qbk L 0 n:=by
 refine ⟨d,λi f g=>?_,λi a=>?_,λi a=>?_,λi a c=>?_⟩
 ·rw [Nat.zero_add];have j:=QeR (h 0 d);have:=(QbP f (h i g)).1;omega
 ·have:=(QbP (by omega) (h (i+1) a)).2.2;rw [Nat.add_sub_cancel] at this;simpa using this
 ·rw [Nat.zero_add];exact Qat (h i a)
 rw [Nat.zero_add] at c ⊢;have b:Z1 L (i+1) (i+1)=true:=by have:=h (i+1) a;unfold QQ at this;rw [if_neg (by omega)] at this;simp only [Bool.and_eq_true] at this;exact this.2
 rw [QhM c] at b;rcases Qat (h i (by omega)) with e|e
 ·exact e
 rw [(QeG e).1] at b;cases b
theorem QmO:∀ (l:List (Nat × Nat)) (a b i:Nat),Qac l a b->a<=i->i<b->∃ p,p ∈ l/\p.1<=i/\i<p.2
 | [],a,b,i,h,h1,h2=>by have e:a=b:=h;omega
 | p::l,a,b,i,⟨g1,g2,g3⟩,h1,h2=>by
  by_cases e:i<p.2
  ·exact ⟨p,mem_cons_self ..,by omega,e⟩
  obtain ⟨q,c,d⟩:=QmO l p.2 b i g3 (by omega) h2;exact ⟨q,mem_cons_of_mem _ c,d⟩
theorem QkP:∀ (l:List (Nat × Nat)) (a b:Nat),Qac l a b->∀ q,q ∈ l->a<=q.1
 | [],_,_,_,_,h=>by simp at h
 | p::l,a,b,⟨g1,g2,g3⟩,q,h=>by
  rcases mem_cons.1 h with e|e
  ·rw [e];omega
  have:=QkP l p.2 b g3 q e;omega
theorem Qlt:∀ (l:List (Nat × Nat)) (a b:Nat),Qac l a b->(l.map (·.1)).Pairwise (λx f=>x<f)| [],_,_,_=>List.Pairwise.nil| p::l,a,b,⟨g1,g2,g3⟩=>by rw [map_cons,pairwise_cons];refine ⟨λx c=>?_,Qlt l p.2 b g3⟩;obtain ⟨q,d,rfl⟩:=mem_map.1 c;have:=QkP l p.2 b g3 q d;omega
theorem QfM {L:Nat->Qd} {s n:Nat} (h:Qbk L s n) (x:Nat):x ∈ (QD L s n).map (·.1)↔0<x/\x<n/\(L (s+x)).d=(L s).d+1:=by
 have a:2<=n->(L (s+1)).d=(L (s+0)).d+1:=λo=>by have q:=h.deep 1 (by omega) (by omega);have k:=h.step 0 (by omega);simp only [Nat.add_zero] at k ⊢;omega
 constructor
 ·intro l;obtain ⟨p,b,rfl⟩:=mem_map.1 l;obtain ⟨c,f,g⟩:=Qcj h.pos b;have:=(QeM h.pos a b).1;rw [Nat.add_zero] at this;exact ⟨by omega,by omega,this⟩
 rintro ⟨c,f,g⟩;obtain ⟨p,j,r,m⟩:=QmO _ 1 n x (Qem (λi=>(L (s+i)).d) h.pos) c f;by_cases e:x=p.1
 ·rw [e];exact mem_map.2 ⟨p,j,rfl⟩
 have:=(QeM h.pos a j).2 x (by omega) m;rw [Nat.add_zero] at this;exact absurd g this
def QdX (L:Nat->Qd) (a s n:Nat):Prop:=s+n<=a/\(s+n<a->(L (s+n)).d<=(L s).d)
theorem QkW:∀ (l:List (Nat × Nat)) (a b:Nat),Qac l a b->∀ q,q ∈ l->q.2=b \/ ∃ r,r ∈ l/\r.1=q.2
 | [],_,_,_,_,h=>by simp at h
 | p::l,a,b,⟨g1,g2,g3⟩,q,h=>by
  rcases mem_cons.1 h with e|e
  ·subst e;cases l with| nil =>have e:q.2=b:=g3;exact .inl e| cons r l=>exact .inr ⟨r,by simp,g3.1⟩
  rcases QkW l p.2 b g3 q e with e|⟨r,c,d⟩
  ·exact .inl e
  exact .inr ⟨r,mem_cons_of_mem _ c,d⟩
theorem QdX.part {L:Nat->Qd} {g s n:Nat} (h:Qbk L s n) (f:QdX L g s n) {a:Nat × Nat} (c:a ∈ QD L s n):QdX L g (s+a.1) (a.2-a.1):=by
 obtain ⟨l,m,o⟩:=Qcj h.pos c;have p:=(QfM h a.1).1 (mem_map.2 ⟨a,c,rfl⟩);refine ⟨by have:=f.1;omega,λb=>?_⟩;rw [show s+a.1+(a.2-a.1)=s+a.2 by omega] at b ⊢;rcases QkW _ 1 n (Qem (λi=>(L (s+i)).d) h.pos) a c with e|⟨r,j,k⟩
 ·rw [e] at b ⊢;have:=f.2 b;omega
 have:=(QfM h r.1).1 (mem_map.2 ⟨r,j,rfl⟩);rw [k] at this;omega
theorem QsY {L:Nat->Qd} {f s n:Nat} (l:∀ i,i<f->QQ L i=true) (h:Qbk L s n) (o:QdX L f s n):Qe (QC L f) ((s:Int)+1)=(QD L s n).map λa=>((s+a.1:Nat):Int)+1:=by
 have F:=h.pos;have G:=o.1;have u:Qe (QC L f) ((s:Int)+1)=((List.range f).filter λi=>(Jv L i==(s:Int)+1)).map λi=>((i:Nat):Int)+1:=by unfold Qe QC;rw [filter_map,map_map];rfl
 have v:((QD L s n).map λa=>((s+a.1:Nat):Int)+1)=(((QD L s n).map (·.1)).map λx=>s+x).map λi=>((i:Nat):Int)+1:=by rw [map_map,map_map];rfl
 rw [u,v];congr 1
 have key:∀ i,i ∈ ((List.range f).filter λi=>(Jv L i==(s:Int)+1))↔i ∈ ((QD L s n).map (·.1)).map λx=>s+x:=λi=>by
  rw [mem_filter,mem_range,mem_map];constructor
  ·rintro ⟨q,k⟩;have k:Jv L i=(s:Int)+1:=by simpa using k
   have y:i≠0:=λe=>by subst e;unfold Jv at k;rw [if_pos rfl] at k;omega
   obtain ⟨p,g⟩:=Qhd (by omega) (λj M=>l j (by omega)) (QbP (by omega) (l i q)).1 (QbP (by omega) (l i q)).2.2;have N:Jv L i=(p:Int)+1:=by unfold Jv;rw [if_neg y,g.parent]
   have z:p=s:=by omega
   subst z;have H:=g.lt;have I:=g.up;refine ⟨i-p,(QfM h _).2 ⟨by omega,?_,?_⟩,by omega⟩
   ·by_cases O:i<p+n
    ·omega
    exfalso;have A:=o.2 (by omega);by_cases B:i=p+n
    ·rw [<- B] at A;omega
    have:=g.deep (p+n) (by omega) (by omega);omega
   rw [show p+(i-p)=i by omega];omega
  rintro ⟨x,C,rfl⟩;obtain ⟨P,R,S⟩:=(QfM h x).1 C;refine ⟨by omega,?_⟩;have g:Par L (s+x) s:=⟨by omega,by omega,λj J K=>by have:=h.deep (j-s) (by omega) (by omega);rw [show s+(j-s)=j by omega] at this;omega⟩;have:Jv L (s+x)=(s:Int)+1:=by unfold Jv;rw [if_neg (by omega),g.parent]
  simpa using this
 have r:((List.range f).filter λi=>(Jv L i==(s:Int)+1)).Pairwise (λa b=>a<b):=pairwise_lt_range.filter _;have t:(((QD L s n).map (·.1)).map λx=>s+x).Pairwise (λa b=>a<b):=by rw [pairwise_map];exact (Qlt _ 1 n (Qem (λi=>(L (s+i)).d) h.pos)).imp λh=>by omega
 have D:=QcA (lt:=λa b:Nat=>a<b) (λa=>Nat.lt_irrefl a) (λa b c=>Nat.lt_trans) _ _ r t λa m=>(key a).1 m;have E:=QcA (lt:=λa b:Nat=>a<b) (λa=>Nat.lt_irrefl a) (λa b c=>Nat.lt_trans) _ _ t r λa m=>(key a).2 m;exact D.eq_of_length_le E.length_le
theorem Qkp {L:Nat->Qd} {b:Nat} (g:∀ i,i<b->QQ L i=true):∀ (f s n:Nat),n<=f->Qbk L s n->QdX L b s n->Jm (QC L b) L f ((s:Int)+1) s n
 | 0,s,n,hf,h,_=>by have:=h.pos;omega
 | f+1,s,n,hf,h,hw=>by
  have t:=h.pos;have u:=hw.1;have o:=Qe8 L b;have j:s<(QC L b).length:=by rw [J5];omega
  have c:=Qce o j;rw [Qax] at c;have m:(ZQ L s).id=(s:Int)+1:=rfl;rw [m,QsY g h hw] at c;unfold Jm;rw [c];refine ⟨⟨(QC L b)[s],getElem_mem j,by rw [Qax];rfl⟩,rfl,rfl,rfl,rfl,by simp,λk d=>?_⟩;have l:(QD L s n)[k] ∈ QD L s n:=getElem_mem d;have p:(QD L s n).getD k (0,0)=(QD L s n)[k]:=by rw [Xg d];rfl
  have q:((QD L s n).map λa=>((s+a.1:Nat):Int)+1).getD k 0=((s+(QD L s n)[k].1:Nat):Int)+1:=by rw [getD_eq_getElem?_getD,getElem?_map,getElem?_eq_getElem d];rfl
  simp only [q,p];obtain ⟨r,v,_⟩:=h.part l;exact Qkp g f _ _ (by omega) r (QdX.part h hw l)
end Go.Proofs.YtobgcaemnpkbmaaGreatDoor
