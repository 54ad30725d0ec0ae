import Derived.Test.YtobgcaemnpkbmaaGreatDoorC20
namespace Go.Proofs.YtobgcaemnpkbmaaGreatDoor
set_option maxRecDepth 100000
set_option maxHeartbeats 8000000
open Go.RowKit List
def Told (b WB:Nat) (pv:Value) (P:List Qn) (w:World) (r:List Qn × Int) (e:Ending) (w':World):Prop:=e=.returned (.tuple #[])/\∃ a,Q3 b w' WB a (P++r.1) r.2/\QK WB pv a w w'
theorem Qik {id:Int} {x:NI} {n:Qd} (h:(x.text.toList==n.x.toList)=true):JG id x n=[]:=by simp only [JG,h,cond_true]
theorem QkC {id:Int} {x:NI} {n:Qd} (h:(x.text.toList==n.x.toList)=false):JG id x n=[⟨6,id,0,0,0,⟨#[]⟩,⟨#[]⟩,n.x⟩]:=by simp only [JG,h,cond_false]
theorem QgQ (id:Int) (x:NI) (n:Qd):(JG id x n).length<=1:=by unfold JG;cases (x.text.toList==n.x.toList)<;>simp
theorem QpK (j WB:Nat) (pv:Value) (P:List Qn) (last:Int) (w:World) (h:Q3 j w WB pv P last) (ak:j<=w.heap.size) (aF:P.length<=800000) (nb:Int->Nat) (s:Nat) (id:Int) (x:NI) (D:Qdr WB pv w nb s id x) (a2:x.Ok) (b k n c:Nat) (L:Nat->Qd) (t:1<=n) (ay:n<=c) (au:n<=100000) (A:QaW WB pv w b k n L) (N:∀ i,i<n->(L i).Small) (r:List Qn × Int) (al:∀ f w1 q m B C,Q3 j w1 WB f (P++JG id x (L 0)++QaG id x (L 0)) last->QK WB pv f w w1->w1.ownsRow C 41 1 (.slice q m B) m (Qab b k c (Jg (λi=>(L i).d) n))->m=(Jg (λi=>(L i).d) n).length->(∀ g,Value.ownBlock (.slice q m B)=some g->Zh WB f w1 g)->Xl 99 #[Xp WB,Xp s,.slice q m B] w1 (Told j WB f (P++JG id x (L 0)++QaG id x (L 0)) w1 r)) : Xl 62 #[Xp WB,Xp s,.slice (some (Xa b k)) n c] w (Told j WB pv P w (JG id x (L 0)++QaG id x (L 0)++r.1,r.2)):=by
 have aD:=D.c3;have aa:=D.c0;have ab:w.cell? (Xa b (k+4))=some (.string (L 0).x):=by have:=(A.node 0 t).c4;rw [Nat.zero_mul,Nat.add_zero] at this;exact this
 have ad:Hid (∀ f w1,Q3 j w1 WB f (P++JG id x (L 0)) last->QK WB pv f w w1->w1.cell? (Xa b (k+3))=some (.slice (L 0).ao (L 0).an (L 0).ac)/\Xl 98 #[Xp WB,Xp s,.slice (L 0).ao (L 0).an (L 0).ac] w1 λe w'=>e=.returned (.tuple #[])/\∃ ae,Q3 j w' WB ae (P++JG id x (L 0)++QaG id x (L 0)) last/\QK WB f ae w1 w'):=Qa λf w1 l a=>by
  have W:=D.tells a;have af:=A.tells a;obtain ⟨az,nc,aA,aB⟩:=W.c4;refine ⟨?_,?_⟩
  ·have:=(af.node 0 t).c3;rw [Nat.zero_mul,Nat.add_zero] at this;exact this
  have:=Qqe j WB f (P++JG id x (L 0)) last w1 l (Nat.le_trans ak a.touch.size) (by have:=QgQ id x (L 0);rw [length_append];omega) s id az x.ats.length nc (Q4 x.ats) (Zq x.ats) W.free W.c0 aA aB a2.few a2.names (L 0).ao (L 0).an (L 0).ac (L 0).nm (L 0).vl (af.attrs 0 t) (N 0 t).an (N 0 t).ats;rw [append_assoc (P++JG id x (L 0))] at this;exact this
 have ag:Hid (∀ f w1,QK WB pv f w w1->Xl 100 #[.slice (some (Xa b k)) n c] w1 λe w'=>∃ q,e=.returned q/\w'.ownsRow w1.heap.size 41 1 q (Jg (λi=>(L i).d) n).length (Qab b k c (Jg (λi=>(L i).d) n))/\Xb w1 w'):=Qa λf w1 a => QmW b k n c (λi=>(L i).d) w1 t ay au (A.tells a).free.1 (λi a3=>((A.tells a).node i a3).c0) (λi a3=>(N i a3).dep);have ap:=Qa al;have ar:=Qa h;have av:=Qa D.free;have aw:=Qa A.free;have ax:=(N 0 t).text;have aG:=D.free.1;have aH:=A.free.1;have aE:0<n:=t;clear h al D A N a2;cases e:(x.text.toList==(L 0).x.toList) with
 | true =>
  have a4:=Qik (id:=id) e;go_enter Tryz.func62,Tryz.ntmps62;go_wp2;go_big_quiet (fail);have l:Q3 j (w.drewN nq) WB pv (P++JG id x (L 0)) last:=by rw [a4,append_nil];exact ar.out.below (QL (.refl _ _) nq)
  have a:QK WB pv pv w (w.drewN nq):=.of_below (QL (.refl _ _) nq);generalize w.drewN nq=w1 at l a ⊢;obtain ⟨a5,O⟩:=ad.out _ w1 l a;have a6:=Qa O;have X:=Qa a;clear O a l;go_wp2_with (first|(go_at_call 98;refine (Qb a6).mono ?_;rintro e w2 ⟨rfl,Y,F,G⟩;have u:=Qa F;have v:=Qa (X.out.trans G);clear F G a5)|(go_at_call 100;refine (Qb ag _ _ v.out).mono ?_;rintro e a7 ⟨aC,rfl,y,H⟩;obtain ⟨a8,B,rfl⟩:=Qz y;have o:=Qa y;have z:=Qa H;clear y H)|(go_at_call 99;refine (Qb ap Y a7 a8 _ B w2.heap.size (u.out.below z.out) (v.out.trans (.of_below z.out)) o.out rfl (λg e=>⟨(o.out.lt g e).2,λR=>by have:=u.out.lt;have:=(o.out.lt g e).1;omega,λR=>by have:=(u.out.row.lt g R).2;have:=(o.out.lt g e).1;omega⟩)).mono ?_;rintro e a9 ⟨rfl,I,J,K⟩;have a0:=Qa J;have a1:=Qa K;clear J K));refine bodyPost_end (results_none rfl _ _ _) rfl ?_;refine ⟨rfl,I,?_,(v.out.trans (.of_below z.out)).trans a1.out⟩;show Q3 j a9 WB I (P++(JG id x (L 0)++QaG id x (L 0)++r.1)) r.2;rw [<- append_assoc,<- append_assoc];exact a0.out
 | false =>
  have a4:=QkC (id:=id) e;go_enter Tryz.func62,Tryz.ntmps62;go_wp2;go_big_quiet (fail);have M:Xb w (w.drewN nq):=QL (.refl _ _) nq;have T:(w.drewN nq).cell? (Xa s 0)=some (Xi id):=aa;have U:(w.drewN nq).cell? (Xa b (k+4))=some (.string (L 0).x):=ab;generalize w.drewN nq=E at M T U ⊢;go_wp2_with fail;have ah:(λw':World=>Xc w' s 0 (Xi id)/\Xc w' b (k+4) (.string (L 0).x)) E.drew:=⟨T,U⟩;refine Zm (S:=(λw':World=>w'.cell? (Xa s 0)=some (Xi id)/\w'.cell? (Xa b (k+4))=some (.string (L 0).x))) (by kernel_rfl) ?_;iterate 10
   apply Q0 ?_ ah ?_;rotate_left
   ·(intro w' hSw;(try obtain ⟨q0,aI⟩:=hSw);simp only [Xq];go_simp;try (with_reducible rfl))
   simp only [Xq,Xr]
  refine Qq 10 ?_;simp only [Xq];go_simp;refine ⟨.inr ?_,?_⟩
  ·exact ⟨((((Below.refl E.heap.size E).alloc (Nat.le_refl _) _).cell (p:=(Xa s 0)) (World.block_lt_of_cell? _ _ T))).trans T,((((Below.refl E.heap.size E).alloc (Nat.le_refl _) _).cell (p:=(Xa b (k+4))) (World.block_lt_of_cell? _ _ U))).trans U⟩
  clear ah;refine Qq 11 ?_;simp only [Xq];go_simp;refine (QcN j WB pv P last E (ar.out.below M) (Nat.le_trans ak M.size) (by omega) 6 id 0 0 0 ⟨#[]⟩ ⟨#[]⟩ (L 0).x (by decide) (by decide) ax).mono ?_;rintro e aq ⟨rfl,f,ai,aj⟩;have V:=(QK.of_below (WB:=WB) (pv:=pv) M).trans aj;refine ⟨.inr ⟨(av.out.cell V).trans aa,(aw.out.cell V).trans ab⟩,?_⟩;have l:Q3 j aq WB f (P++JG id x (L 0)) last:=by rw [a4];exact ai
  have a:=V;clear V aj ai M T U;refine Zk (by kernel_rfl) ?_ _;generalize aq=w1 at l a ⊢;obtain ⟨a5,O⟩:=ad.out _ w1 l a;have a6:=Qa O;have X:=Qa a;clear O a l;go_wp2_with (first|(go_at_call 98;refine (Qb a6).mono ?_;rintro e w2 ⟨rfl,Y,F,G⟩;have u:=Qa F;have v:=Qa (X.out.trans G);clear F G a5)|(go_at_call 100;refine (Qb ag _ _ v.out).mono ?_;rintro e a7 ⟨aC,rfl,y,H⟩;obtain ⟨a8,B,rfl⟩:=Qz y;have o:=Qa y;have z:=Qa H;clear y H)|(go_at_call 99;refine (Qb ap Y a7 a8 _ B w2.heap.size (u.out.below z.out) (v.out.trans (.of_below z.out)) o.out rfl (λg e=>⟨(o.out.lt g e).2,λR=>by have:=u.out.lt;have:=(o.out.lt g e).1;omega,λR=>by have:=(u.out.row.lt g R).2;have:=(o.out.lt g e).1;omega⟩)).mono ?_;rintro e a9 ⟨rfl,I,J,K⟩;have a0:=Qa J;have a1:=Qa K;clear J K));refine bodyPost_end (results_none rfl _ _ _) rfl ?_;refine ⟨rfl,I,?_,(v.out.trans (.of_below z.out)).trans a1.out⟩;show Q3 j a9 WB I (P++(JG id x (L 0)++QaG id x (L 0)++r.1)) r.2;rw [<- append_assoc,<- append_assoc];exact a0.out
theorem QiK (D:Nat->Int) (n:Nat):∀ k,k+1<=n->∀ s,s ∈ (Q5 D n k).1->1<=s.1/\s.1<s.2/\s.2<=k+1
 | 0,_,s,h=>by simp [Q5] at h
 | k+1,hk,s,h=>by
  have ih:=QiK D n k (by omega);have b:=Qdg D n k;cases a:JS D n (k+2) with
  | true =>
   rw [Qcz a] at h;rcases mem_append.1 h with h|h
   ·have:=ih s h;omega
   have e:=mem_singleton.1 h;subst e;exact ⟨b.1,by show (Q5 D n k).2<k+2;omega,Nat.le_refl _⟩
  | false =>rw [Qda a] at h;have:=ih s h;omega
theorem Qcj {D:Nat->Int} {n:Nat} (a:1<=n) {s:Nat × Nat} (h:s ∈ Jg D n):1<=s.1/\s.1<s.2/\s.2<=n:=by have:=QiK D n (n-1) (by omega) s h;omega
theorem Qg6 (D:Nat->Int) (n:Nat):(Jg D n).length<=n:=Nat.le_trans (Qhs D n (n-1)) (Nat.sub_le _ _)
theorem Qos {WB:Nat} {pv:Value} {w:World} {nb:Int->Nat} {S:Int->Prop} {T:Int->NI} (h:Qbu WB pv w nb S T) {a:List Int} (i:∀ k,k ∈ a->S k) {l:Option Addr} (o:∀ j,j<a.length->∃ g,l=some (Xa g 0)/\Zh WB pv w g/\w.cell? (Xa g j)=some (Xp (nb (a.getD j 0)))) : Qmg w l a.length (λj=>((T (a.getD j 0)).tag,(T (a.getD j 0)).key)):=by
 intro j b;obtain ⟨g,e,f,c⟩:=o j b;have m:a.getD j 0 ∈ a:=by rw [Xg b];exact getElem_mem b
 have d:=h.node _ (i _ m);have n:=h.ok _ (i _ m);exact ⟨g,_,e,f.1,d.free.1,c,d.c1,d.c2,n.tag,n.key⟩
theorem Qr2 {WB:Nat} {pv:Value} {w:World} {nb:Int->Nat} {S:Int->Prop} {T:Int->NI} (i:Qbu WB pv w nb S T) {a:List Int} (l:∀ k,k ∈ a->S k) {d:Option Addr} (m:∀ j,j<a.length->∃ g,d=some (Xa g 0)/\Zh WB pv w g/\w.cell? (Xa g j)=some (Xp (nb (a.getD j 0)))) : Qeo WB pv w d a.length (λj=>a.getD j 0):=by
 intro j b;obtain ⟨g,e,f,c⟩:=m j b;have n:a.getD j 0 ∈ a:=by rw [Xg b];exact getElem_mem b
 have h:=i.node _ (l _ n);exact ⟨g,_,e,f,h.free,c,h.c0⟩
theorem Qd0 {w:World} {C:Nat} {e:TypeId} {ao:Option Addr} {n c:Nat} {xs:List Value} {j:Nat} (h:w.ownsRow C e 1 (.slice ao n c) n xs) (f:j<n):∃ g,∃ a:j<xs.length,ao=some (Xa g 0)/\g<w.heap.size/\w.cell? (Xa g j)=some xs[j]:=by
 have a:xs.length=n:=by have:=h.1;omega
 rcases h.2 with ⟨e,i⟩|⟨g,cap,d,e,hb,b,_⟩
 ·omega
 simp at e;obtain ⟨rfl,rfl⟩:=e;refine ⟨g,by omega,rfl,(Array.getElem?_eq_some_iff.1 b).1,?_⟩;rw [h.cellAt j (by omega),getElem?_eq_getElem (by omega)]
theorem QiL {w:World} {C:Nat} {e:TypeId} {d:Option Addr} {m k b i c:Nat} {ps:List (Nat × Nat)} (h:w.ownsRow C e 1 (.slice d m k) m (Qab b i c ps)) (p:m=ps.length) {j:Nat} (l:j<m):∃ g,d=some (Xa g 0)/\g<w.heap.size/\ps.getD j (0,0) ∈ ps/\w.cell? (Xa g j)=some (QbO b i c (ps.getD j (0,0))):=by
 obtain ⟨g,q,e,n,o⟩:=Qd0 h l;have a:j<ps.length:=by omega
 have f:ps.getD j (0,0)=ps[j]:=by rw [Xg a];rfl
 refine ⟨g,e,n,by rw [f];exact getElem_mem a,?_⟩;rw [o,f];simp only [Qab,getElem_map]
theorem Quw {WB:Nat} {pv:Value} {w:World} {C:Nat} {e:TypeId} {p:Option Addr} {m s b f c n:Nat} {L:Nat->Qd} (h:w.ownsRow C e 1 (.slice p m s) m (Qab b f c (Jg (λi=>(L i).d) n))) (u:m=(Jg (λi=>(L i).d) n).length) (v:1<=n) (D:n<=100000) (q:QaW WB pv w b f n L) (x:∀ i,i<n->(L i).Small) : Qg1 w p m (λj=>((L ((Jg (λi=>(L i).d) n).getD j (0,0)).1).t,(L ((Jg (λi=>(L i).d) n).getD j (0,0)).1).k)):=by
 intro j y;obtain ⟨g,z,A,r,B⟩:=QiL h u y;obtain ⟨E,F,G⟩:=Qcj v r;simp only;generalize (Jg (λi=>(L i).d) n).getD j (0,0)=a at *;have l:=q.node a.1 (by omega);have o:=x a.1 (by omega);have H:=o.tag;refine ⟨g,b,f+a.1*5,a.2-a.1-1,c-a.1,z,A,q.free.1,?_,l.c1,l.c2,?_,o.key,by omega⟩
 ·rw [B];unfold QbO;rw [show a.2-a.1-1+1=a.2-a.1 by omega]
 show (L a.1).t.size<=maxLen;unfold maxLen;omega
def Qgo (T:Int->NI) (nb:Int->Nat) (S:Int->Prop) (h:Br) (L:Nat->Qd) (f:Nat):Prop :=
 ∀ (a WB:Nat) (pv:Value) (P:List Qn) (last:Int) (w:World),Q3 a w WB pv P last->a<=w.heap.size->Qbu WB pv w nb S T ->
 ∀ (d:Nat) (id:Int) (x:NI),Qdr WB pv w nb d id x->x.Ok->(∀ k,k ∈ x.kids->S k) ->
 ∀ (b g s n c:Nat),1<=n->n<=f->n<=c->n<=100000->QaW WB pv w b g n (λi=>L (s+i))->(∀ i,i<n->(L (s+i)).Small) ->
 P.length+1020*n<=800000->0<=last->last+n<=4611686018427387904 ->
 Xl 62 #[Xp WB,Xp d,.slice (some (Xa b g)) n c] w (Told a WB pv P w (h id x s n last))
theorem Qqm {T:Int->NI} {nb:Int->Nat} {S:Int->Prop} {L:Nat->Qd} {WB:Nat} {pv:Value} {w:World} (y:Qbu WB pv w nb S T) {f:Nat} (z:f<w.heap.size) {a:List Int} {h:Option Addr} {p:Nat} (A:Xc w f 6 (.slice h a.length p)) (B:∀ j,j<a.length->∃ g,h=some (Xa g 0)/\Zh WB pv w g/\w.cell? (Xa g j)=some (Xp (nb (a.getD j 0)))) (D:∀ k,k ∈ a->S k) (H:a.length<=1000) {b r s n c:Nat} (E:1<=n) (I:n<=1000) (F:QaW WB pv w b r n (λi=>L (s+i))) (G:∀ i,i<n->(L (s+i)).Small) {C:Nat} {d:Option Addr} {m l:Nat} (u:w.ownsRow C 41 1 (.slice d m l) m (Qab b r c (QD L s n))) (o:m=(QD L s n).length) : Xl 133 #[Xp f,.slice d m l] w λe w'=>∃ q,e=.returned q/\w'.ownsRow w.heap.size 3 1 q m (Qt (Jb T L a s (QD L s n)))/\Xb w w':=by
 have J:m<=n:=by rw [o];exact Qg6 _ _
 have v:Qg1 w d m (λj=>((L (s+((QD L s n).getD j (0,0)).1)).t,(L (s+((QD L s n).getD j (0,0)).1)).k)):=Quw (L:=λi=>L (s+i)) u o E (by omega) F G;have x:=Qos y D B;have:=Qtg f h a.length p (λj=>((T (a.getD j 0)).tag,(T (a.getD j 0)).key)) d m l (λj=>((L (s+((QD L s n).getD j (0,0)).1)).t,(L (s+((QD L s n).getD j (0,0)).1)).k)) w z (by omega) (by omega) A x v;have e:Jb T L a s (QD L s n)=J3 (λj=>((T (a.getD j 0)).tag,(T (a.getD j 0)).key)) a.length (λj=>((L (s+((QD L s n).getD j (0,0)).1)).t,(L (s+((QD L s n).getD j (0,0)).1)).k)) m:=by rw [o];rfl
 rw [e];exact this
theorem QsA {T:Int->NI} {nb:Int->Nat} {S:Int->Prop} {n WB:Nat} {pv:Value} {P:List Qn} {last:Int} {w:World} (h:Q3 n w WB pv P last) (x:n<=w.heap.size) (y:Qbu WB pv w nb S T) {o:Nat} (s:Zh WB pv w o) {a:List Int} {p:Option Addr} {t:Nat} (z:Xc w o 6 (.slice p a.length t)) (A:∀ j,j<a.length->∃ g,p=some (Xa g 0)/\Zh WB pv w g/\w.cell? (Xa g j)=some (Xp (nb (a.getD j 0)))) (B:∀ k,k ∈ a->S k) (v:a.length<=1000) (E:P.length<=800000) {w1:World} (hb:Xb w w1) {c:Option Addr} {m d:Nat} (C:m<=1000) {l:List Int} (i:w1.ownsRow w.heap.size 3 1 (.slice c m d) m (Qt l)) : Xl 134 #[Xp WB,Xp o,.slice c m d] w1 λe w'=>e=.returned (.tuple #[])/\∃ b,Q3 n w' WB b (P++ZY (λj=>a.getD j 0) l a.length) last/\QK WB pv b w w'/\QcH WB b w' w.heap.size (.slice c m d) m l:=by have f:QK WB pv pv w w1:=.of_below hb;have q:QcH WB pv w1 w.heap.size (.slice c m d) m l:=⟨i,λg e=>⟨(i.lt g e).2,λu=>by have:=h.lt;have:=(i.lt g e).1;omega,λu=>by have:=(h.row.lt g u).2;have:=(i.lt g e).1;omega⟩⟩;refine (QuI n WB pv P last w1 (h.below hb) (Nat.le_trans x hb.size) (by omega) o p a.length t (λj=>a.getD j 0) (s.tells f) ((s.cell f).trans z) ((Qr2 y B A).tells f) v w.heap.size c m d l q C).mono ?_;rintro e w' ⟨rfl,b,D,r⟩;exact ⟨rfl,b,D,f.trans r,q.tells r⟩
theorem QrX {A:Nat->ByteArray × Int} {n:Nat} {a:Nat->ByteArray × Int} {m:Nat} {p:Int} (h:p ∈ J3 A n a m):p=-1 \/ (0<=p/\p<(n:Int)):=by unfold J3 at h;obtain ⟨j,_,rfl⟩:=mem_map.1 h;unfold Qa8;cases e:J4 A n ⟨(a j).1,(a j).2,Zf a (a j) j⟩ with| none=>exact .inl rfl| some v=>exact .inr (QrU A _ n v e)
theorem Qho {T:Int->NI} {L:Nat->Qd} {a:List Int} {s:Nat} {ps:List (Nat × Nat)} {p:Int} (h:p ∈ Jb T L a s ps):p=-1 \/ (0<=p/\p<(a.length:Int)):=QrX h
theorem Qjh (T:Int->NI) (L:Nat->Qd) (a:List Int) (s:Nat) (ps:List (Nat × Nat)):(Jb T L a s ps).length=ps.length:=QhI _ _ _ _
theorem Qfs (v:Nat->Int):∀ n c,c ∈ Qr v n->∀ x,x ∈ c->x<n
 | 0,c,h=>by simp [Qr] at h
 | i+1,c,h=>by
  intro x a;have ih:=Qfs v i;have b:∀ x,x ∈ Qa3 (Qr v i) (Zy v (Qr v i) i) i->x<i+1:=λx a=>by
   rcases Qmt a with e|⟨c,d,a⟩
   ·omega
   have:=ih c d x a;omega
  rw [Qr] at h;unfold Qbc at h;split at h
  ·rcases mem_or_eq_of_mem_set h with h|h
   ·have:=ih c h x a;omega
   subst h;exact b x a
  rcases mem_append.1 h with h|h
  ·have:=ih c h x a;omega
  have e:=mem_singleton.1 h;subst e;exact b x a
theorem QfH {α:Type}:∀ (l:List α) (d:α),l≠[]->l.getLastD d ∈ l| [],_,h=>absurd rfl h| [a],_,_=>by simp| a::b::l,d,_=>by rw [getLastD_cons];exact mem_cons_of_mem _ (QfH (b::l) a (by simp))
theorem Qpz {v:Nat->Int} {n:Nat} {c:Int} (h:c ∈ Qcv v n):∃ x,x<n/\v x=c:=by unfold Qcv at h;rw [mem_reverse] at h;obtain ⟨x,b,rfl⟩:=mem_map.1 h;refine ⟨x,?_,rfl⟩;cases e:Qr v n with| nil=>rw [e] at b;simp at b| cons a l =>exact Qfs v n ((Qr v n).getLastD []) (QfH _ _ (by rw [e];simp)) x b
theorem Qfz {a:List Int} {b:Int} (h:b ∈ ZV a):b ∈ a/\b≠-1:=by
 obtain ⟨x,c,e⟩:=Qpz h;have f:(a.filter Ze).getD x 0=(a.filter Ze)[x]:=by rw [Xg c];rfl
 have g:b ∈ a.filter Ze:=by rw [<- e];show (a.filter Ze).getD x 0 ∈ _;rw [f];exact getElem_mem c
 have:=mem_filter.1 g;refine ⟨this.1,λe=>?_⟩;have d:=this.2;rw [e] at d;revert d;decide
def Jh (a:List Int):List Int->Int
 | []=>0
 | k::_=>a.getD k.toNat 0
theorem QeW {c:Br} {T:Int->NI} {L:Nat->Qd} {id:Int} {b:List Int} {s:Nat} {q:KS} {a:Nat × Nat} {p:Int} (h:q.stay.head?=some p) : QaZ c T L id b s q a p=⟨q.pats++(c (b.getD p.toNat 0) (T (b.getD p.toNat 0)) (s+a.1) (a.2-a.1) q.last).1,q.stay.tail,(c (b.getD p.toNat 0) (T (b.getD p.toNat 0)) (s+a.1) (a.2-a.1) q.last).2⟩:=by unfold QaZ;rw [decide_eq_true h];rfl
theorem QeL {b:Br} {T:Int->NI} {L:Nat->Qd} {id:Int} {c:List Int} {s:Nat} {q:KS} {a:Nat × Nat} {p:Int} (h:q.stay.head?≠some p) (d:p=-1) : QaZ b T L id c s q a p=⟨q.pats++[⟨1,q.last+1,0,0,(L (s+a.1)).k,(L (s+a.1)).t,⟨#[]⟩,(L (s+a.1)).x⟩]++[⟨2,q.last+1,id,Jh c q.stay,0,⟨#[]⟩,⟨#[]⟩,⟨#[]⟩⟩]++(b (q.last+1) ⟨(L (s+a.1)).k,(L (s+a.1)).t,(L (s+a.1)).x,[],[]⟩ (s+a.1) (a.2-a.1) (q.last+1)).1,q.stay,(b (q.last+1) ⟨(L (s+a.1)).k,(L (s+a.1)).t,(L (s+a.1)).x,[],[]⟩ (s+a.1) (a.2-a.1) (q.last+1)).2⟩:=by unfold QaZ;rw [decide_eq_false h,show (p==-1)=true by rw [d];rfl];simp only [cond_false,cond_true];cases q.stay<;>rfl
theorem Qey {c:Br} {T:Int->NI} {L:Nat->Qd} {id:Int} {b:List Int} {s:Nat} {q:KS} {a:Nat × Nat} {p:Int} (h:q.stay.head?≠some p) (d:p≠-1) : QaZ c T L id b s q a p=⟨q.pats++[⟨2,b.getD p.toNat 0,id,Jh b q.stay,0,⟨#[]⟩,⟨#[]⟩,⟨#[]⟩⟩]++(c (b.getD p.toNat 0) (T (b.getD p.toNat 0)) (s+a.1) (a.2-a.1) q.last).1,q.stay,(c (b.getD p.toNat 0) (T (b.getD p.toNat 0)) (s+a.1) (a.2-a.1) q.last).2⟩:=by unfold QaZ;rw [decide_eq_false h,show (p==-1)=false from beq_eq_false_iff_ne.2 d];simp only [cond_false];cases q.stay<;>rfl
theorem Qod (g:Br) (T:Int->NI) (L:Nat->Qd) (id:Int) (f:List Int) (s:Nat) (q:KS) (a:Nat × Nat) (p:Int):∀ c,c ∈ (QaZ g T L id f s q a p).stay->c ∈ q.stay:=by
 intro c b;by_cases h:q.stay.head?=some p
 ·rw [QeW h] at b;exact mem_of_mem_tail b
 by_cases d:p=-1
 ·rw [QeL h d] at b;exact b
 rw [Qey h d] at b;exact b
theorem Qhu (c:Br) (T:Int->NI) (L:Nat->Qd) (id:Int) (b:List Int) (s:Nat) (ps:List (Nat × Nat)) (d:List Int) (q:KS):∀ k a,a ∈ (Jn c T L id b s ps d q k).stay->a ∈ q.stay| 0,_,h=>h| k+1,a,h=>Qhu c T L id b s ps d q k a (Qod c T L id b s _ _ _ a h)
def Zr (ps:List (Nat × Nat)):Nat->Nat
 | 0=>0
 | k+1=>Zr ps k+((ps.getD k (0,0)).2-(ps.getD k (0,0)).1)
theorem QiN (ps:List (Nat × Nat)) (a:Nat × Nat):∀ k,k<=ps.length->Zr (ps++[a]) k=Zr ps k
 | 0,_=>rfl
 | k+1,h=>by
  rw [Zr,Zr,QiN ps a k (by omega)];have:(ps++[a]).getD k (0,0)=ps.getD k (0,0):=by rw [getD_eq_getElem?_getD,getD_eq_getElem?_getD,getElem?_append_left (by omega)]
  rw [this]
theorem Qjb (D:Nat->Int) (n:Nat):∀ k,Zr (Q5 D n k).1 (Q5 D n k).1.length+1=(Q5 D n k).2
 | 0=>rfl
 | k+1=>by
  have ih:=Qjb D n k;have b:=Qdg D n k;cases a:JS D n (k+2) with
  | true =>
   rw [Qcz a];show Zr ((Q5 D n k).1++[((Q5 D n k).2,k+2)]) ((Q5 D n k).1++[((Q5 D n k).2,k+2)]).length+1=k+2;rw [length_append];show Zr _ ((Q5 D n k).1.length+1)+1=k+2;rw [Zr,QiN _ _ _ (Nat.le_refl _)];have:((Q5 D n k).1++[((Q5 D n k).2,k+2)]).getD (Q5 D n k).1.length (0,0)=((Q5 D n k).2,k+2):=by rw [getD_eq_getElem?_getD,getElem?_append_right (Nat.le_refl _)];simp
   rw [this];show Zr _ _+(k+2-(Q5 D n k).2)+1=k+2;omega
  | false =>rw [Qda a];exact ih
theorem QmB (ps:List (Nat × Nat)) (k:Nat):∀ j,Zr ps k<=Zr ps (k+j)| 0=>Nat.le_refl _| j+1=>Nat.le_trans (QmB ps k j) (Nat.le_add_right _ _)
theorem Qgf (D:Nat->Int) {n:Nat} (d:1<=n) {k:Nat} (a:k<=(Jg D n).length):Zr (Jg D n) k+1<=n:=by have b:=Qjb D n (n-1);have f:=Qdg D n (n-1);obtain ⟨j,e⟩:=Nat.exists_eq_add_of_le a;have c:=QmB (Jg D n) k j;rw [<- e] at c;have g:Zr (Jg D n) (Jg D n).length+1=(Q5 D n (n-1)).2:=b;omega
def Qgs (a:Br) (L:Nat->Qd) (f:Nat):Prop:=∀ (id:Int) (x:NI) (s n:Nat) (last:Int),x.kids.length<=1000->x.ats.length<=5->1<=n->n<=f->(∀ i,i<n->(L (s+i)).an<=5)->(a id x s n last).1.length+2<=1020*n/\last<=(a id x s n last).2/\(a id x s n last).2+1<=last+n
theorem QfV {g:Br} {T:Int->NI} {L:Nat->Qd} {f:Nat} (h:Qgs g L f) (r:∀ i,(T i).kids.length<=1000/\(T i).ats.length<=5) (id:Int) (b:List Int) (s n:Nat) (y:n<=f+1) (u:∀ i,i<n->(L (s+i)).an<=5) (ps:List (Nat × Nat)) (l:∀ a,a ∈ ps->1<=a.1/\a.1<a.2/\a.2<=n) (d:List Int) (q:KS) : ∀ k,k<=ps.length->(Jn g T L id b s ps d q k).pats.length<=q.pats.length+1020*Zr ps k/\q.last<=(Jn g T L id b s ps d q k).last/\(Jn g T L id b s ps d q k).last<=q.last+Zr ps k
 | 0,_=>⟨by simp [Jn,Zr],by simp [Jn],by simp [Jn,Zr]⟩
 | k+1,hk=>by
  obtain ⟨B,C,D⟩:=QfV h r id b s n y u ps l d q k (by omega);have z:ps.getD k (0,0) ∈ ps:=by rw [Xg (by omega)];exact getElem_mem _
  obtain ⟨E,F,G⟩:=l _ z;rw [Jn,Zr];generalize Jn g T L id b s ps d q k=c at *;generalize ps.getD k (0,0)=a at *;generalize d.getD k 0=p at *;have m:∀ i,i<a.2-a.1->(L (s+a.1+i)).an<=5:=λi H=>by rw [Nat.add_assoc];exact u _ (by omega)
  have o:=r (b.getD p.toNat 0);have hb:=h (b.getD p.toNat 0) (T (b.getD p.toNat 0)) (s+a.1) (a.2-a.1) c.last o.1 o.2 (by omega) (by omega) m;have A:=h (c.last+1) ⟨(L (s+a.1)).k,(L (s+a.1)).t,(L (s+a.1)).x,[],[]⟩ (s+a.1) (a.2-a.1) (c.last+1) (Nat.zero_le _) (Nat.zero_le _) (by omega) (by omega) m;by_cases j:c.stay.head?=some p
  ·rw [QeW j];simp only [length_append];omega
  by_cases v:p=-1
  ·rw [QeL j v];simp only [length_append,length_cons,length_nil];omega
  rw [Qey j v];simp only [length_append,length_cons,length_nil];omega
theorem Qek {T:Int->NI} {L:Nat->Qd} (c:∀ i,(T i).kids.length<=1000/\(T i).ats.length<=5):∀ f,Qgs (QaE T L f) L f| 0=>λ_ _ _ _ _ _ _ h k _=>by omega| f+1=>λid x s n last o d b l g=>by have p:=QgQ id x (L s);have h:=QeK id (Q4 x.ats) (L s).nm (L s).an x.ats.length;have k:=Qgu id (Q4 x.ats) (Zq x.ats) x.ats.length (L s).nm (L s).vl (L s).an;have m:=g 0 b;have q:=Qf7 (λj=>x.kids.getD j 0) (Jb T L x.kids s (QD L s n)) x.kids.length;have r:=QfV (Qek c f) c id x.kids s n l g (QD L s n) (λa d=>Qcj b d) (Jb T L x.kids s (QD L s n)) ⟨ZY (λj=>x.kids.getD j 0) (Jb T L x.kids s (QD L s n)) x.kids.length,ZV (Jb T L x.kids s (QD L s n)),last⟩ (QD L s n).length (Nat.le_refl _);have t:Zr (QD L s n) (QD L s n).length+1<=n:=Qgf _ b (Nat.le_refl _);simp only [QaE,Qcb,QaG,length_append] at *;rw [Nat.add_zero] at m;omega
def Qbd (WB:Nat) (pv:Value) (w:World) (b:Option Addr) (l:List Int):Prop:=∀ j,j<l.length->∃ g a,b=some (Xa g a)/\Zh WB pv w g/\w.cell? (Xa g (a+j))=some (Xi (l.getD j 0))
theorem Qbd.tells {WB:Nat} {pv a:Value} {w w':World} {b:Option Addr} {l:List Int} (h:Qbd WB pv w b l) (k:QK WB pv a w w'):Qbd WB a w' b l:=λj d=>by obtain ⟨g,i,e,f,c⟩:=h j d;exact ⟨g,i,e,f.tells k,(f.cell k).trans c⟩
theorem Qbd.head {WB:Nat} {pv:Value} {w:World} {b:Option Addr} {k:Int} {l:List Int} (h:Qbd WB pv w b (k::l)):∃ g a,b=some (Xa g a)/\Zh WB pv w g/\w.cell? (Xa g a)=some (Xi k)/\Qbd WB pv w (some (Xa g (a+1))) l:=by obtain ⟨g,a,e,f,c⟩:=h 0 (by simp);refine ⟨g,a,e,f,by simpa using c,λj m=>?_⟩;obtain ⟨n,o,d,p,i⟩:=h (j+1) (by simp;omega);rw [e] at d;cases d;refine ⟨g,a+1,rfl,f,?_⟩;rw [show a+1+j=a+(j+1) by omega,i];simp
theorem Qbd.of_row {WB:Nat} {pv:Value} {w:World} {C:Nat} {a:Option Addr} {n c:Nat} {l:List Int} (h:w.ownsRow C 3 1 (.slice a n c) n (Qt l)) (b:∀ g,Value.ownBlock (.slice a n c)=some g->Zh WB pv w g):Qbd WB pv w a l:=λj d=>by
 have f:(Qt l).length=n:=by have:=h.1;omega
 have k:l.length=n:=by rw [<- f];simp [Qt]
 obtain ⟨g,m,e,o,i⟩:=Qd0 h (j:=j) (by omega);refine ⟨g,0,e,b g (by rw [e];rfl),?_⟩;rw [Nat.zero_add,i,Xg d];simp [Qt]
theorem QqR {w:World} {C:Nat} {e:TypeId} {size:Nat} {ao:Option Addr} {n c:Nat} {xs:List Value} (h:w.ownsRow C e size (.slice ao n c) n xs):n<=c:=by
 rcases h.2 with ⟨a,d⟩|⟨g,cap,b,a,_,_,f,_⟩
 ·omega
 simp at a;omega
theorem QaW.sub {WB:Nat} {pv:Value} {w:World} {b c n s:Nat} {L:Nat->Qd} (h:QaW WB pv w b c n (λi=>L (s+i))) {a d:Nat} (g:a<d) (j:d<=n):QaW WB pv w b (c+a*5) (d-a) (λi=>L (s+a+i)):=by
 refine ⟨h.free,λi f=>?_,λi f=>?_⟩
 ·have:=h.node (a+i) (by omega);rw [show c+(a+i)*5=c+a*5+i*5 by omega] at this;rw [Nat.add_assoc s];exact this
 rw [Nat.add_assoc s];exact h.attrs (a+i) (by omega)
theorem Qhw {T:Int->NI} {nb:Int->Nat} {S:Int->Prop} {p:Br} {L:Nat->Qd} {f:Nat} (r:Qgo T nb S p L f) {m WB:Nat} {pv:Value} {w:World} (v:m<=w.heap.size) (j:Qbu WB pv w nb S T) {b o s n c:Nat} (B:n<=f+1) (C:n<=c) (_hn2:n<=1000) (x:QaW WB pv w b o n (λi=>L (s+i))) (y:∀ i,i<n->(L (s+i)).Small) {a:Nat × Nat} (q:1<=a.1/\a.1<a.2/\a.2<=n) {i:Int} (k:S i) (g:Value) (w':World) (l:List Qn) (d:Int) (h:QK WB pv g w w') (z:Q3 m w' WB g l d) (A:l.length+1020*(a.2-a.1)<=800000) (t:0<=d) (u:d+((a.2-a.1:Nat):Int)<=4611686018427387904) : Xl 62 #[Xp WB,Xp (nb i),QbO b o c a] w' (Told m WB g l w' (p i (T i) (s+a.1) (a.2-a.1) d)) := r m WB g l d w' z (Nat.le_trans v h.touch.size) (j.tells h) (nb i) i (T i) ((j.tells h).node i k) (j.ok i k) (j.kids i k) b (o+a.1*5) (s+a.1) (a.2-a.1) (c-a.1) (by omega) (by omega) (by omega) (by omega) ((x.tells h).sub q.2.1 q.2.2) (λi k=>by rw [Nat.add_assoc];exact y _ (by omega)) A t u
theorem QiY {T:Int->NI} {nb:Int->Nat} {S:Int->Prop} {u:Br} {L:Nat->Qd} {f:Nat} (y:Qgo T nb S u L f) {o WB:Nat} {pv:Value} {w:World} (B:o<=w.heap.size) (C:Qbu WB pv w nb S T) {b r s n c:Nat} (K:n<=f+1) (M:n<=c) (_hn2:n<=1000) (E:QaW WB pv w b r n (λi=>L (s+i))) (q:∀ i,i<n->(L (s+i)).Small) {a:Nat × Nat} (v:1<=a.1/\a.1<a.2/\a.2<=n) (h:Value) (w':World) (m:List Qn) (g:Int) (p:QK WB pv h w w') (F:Q3 o w' WB h m g) (G:m.length+1020*(a.2-a.1)<=800000) (z:0<=g) (A:g+((a.2-a.1:Nat):Int)<=4611686018427387904) (D:Nat) (i:Int) (H:Zh WB h w' D) (d:w'.heap[D]?=some (.cells #[Xi i,Xi (L (s+a.1)).k,.string (L (s+a.1)).t,.string (L (s+a.1)).x,Xv,.pointer none,Xv] 148 (0,0))) : Xl 62 #[Xp WB,Xp D,QbO b r c a] w' (Told o WB h m w' (u i ⟨(L (s+a.1)).k,(L (s+a.1)).t,(L (s+a.1)).x,[],[]⟩ (s+a.1) (a.2-a.1) g)) := y o WB h m g w' F (Nat.le_trans B p.touch.size) (C.tells p) D i ⟨(L (s+a.1)).k,(L (s+a.1)).t,(L (s+a.1)).x,[],[]⟩ ⟨H,Qf d 0 _ rfl,Qf d 1 _ rfl,Qf d 2 _ rfl,Qf d 3 _ rfl,⟨none,0,Qf d 4 _ rfl,⟨λj l=>absurd l (Nat.not_lt_zero _),λI=>absurd I (Nat.lt_irrefl _)⟩⟩,⟨none,0,Qf d 6 _ rfl,λj l=>absurd l (Nat.not_lt_zero _)⟩⟩ ⟨Nat.zero_le _,λj l=>absurd l (Nat.not_lt_zero _),by have:=(q a.1 (by omega)).tag;show (L (s+a.1)).t.size<=maxLen;unfold maxLen;omega,(q a.1 (by omega)).key,Nat.zero_le _⟩ (λk J=>by cases J) b (r+a.1*5) (s+a.1) (a.2-a.1) (c-a.1) (by omega) (by omega) (by omega) (by omega) ((E.tells p).sub v.2.1 v.2.2) (λi N=>by rw [Nat.add_assoc];exact q _ (by omega)) G z A
theorem QoG {T:Int->NI} {g:Br} {L:Nat->Qd} {f:Nat} (q:Qgs g L f) (t:∀ i,(T i).kids.length<=1000/\(T i).ats.length<=5) (id:Int) {x:NI} (E:x.kids.length<=1000) {s n:Nat} (c:1<=n) (u:n<=f+1) (v:∀ i,i<n->(L (s+i)).Small) {P:List Qn} {last:Int} (F:P.length+1020*n<=800011) (C:0<=last) (D:last+n<=4611686018427387904) {ps:List (Nat × Nat)} (r:QD L s n=ps) (b:List Int) (k:Nat) (m:k<ps.length) (d:KS) (y:Jn g T L id x.kids s ps b ⟨ZY (λj=>x.kids.getD j 0) b x.kids.length,ZV b,last⟩ k=d) : (1<=(ps.getD k (0,0)).1/\(ps.getD k (0,0)).1<(ps.getD k (0,0)).2/\(ps.getD k (0,0)).2<=n)/\(P++d.pats).length+2+1020*((ps.getD k (0,0)).2-(ps.getD k (0,0)).1)<=800000/\0<=d.last/\d.last+1+(((ps.getD k (0,0)).2-(ps.getD k (0,0)).1:Nat):Int)<=4611686018427387904/\(∀ p,p ∈ d.stay->p ∈ ZV b):=by
 subst r;subst y;have h:=QfV q t id x.kids s n u (λi z=>(v i z).an) (QD L s n) (λa A=>Qcj c A) b ⟨ZY (λj=>x.kids.getD j 0) b x.kids.length,ZV b,last⟩ k (by omega);have o:Zr (QD L s n) (k+1)+1<=n:=Qgf _ c (by exact m);have G:=Qf7 (λj=>x.kids.getD j 0) b x.kids.length;have l:(QD L s n).getD k (0,0) ∈ QD L s n:=by rw [Xg m];exact getElem_mem _
 have B:=Qhu g T L id x.kids s (QD L s n) b ⟨ZY (λj=>x.kids.getD j 0) b x.kids.length,ZV b,last⟩ k;refine ⟨Qcj c l,?_,?_,?_,B⟩
 ·have:=Qcj c l;rw [Zr] at o;rw [length_append];have:=h.1;simp only at this;omega
 ·have:=h.2.1;simp only at this;omega
 have:=Qcj c l;rw [Zr] at o;have:=h.2.2;simp only at this;omega
end Go.Proofs.YtobgcaemnpkbmaaGreatDoor
