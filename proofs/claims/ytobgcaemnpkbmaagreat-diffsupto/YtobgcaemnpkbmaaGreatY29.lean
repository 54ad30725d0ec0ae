import Derived.Test.YtobgcaemnpkbmaaGreatY28
namespace Go.Proofs.YtobgcaemnpkbmaaGreat
set_option maxRecDepth 100000
set_option maxHeartbeats 8000000
open Go.RowKit List
variable {k' l2 last:Int} {W:List (Nat × Int)} {R R':List RN} {E EA xs:List Value} {B B' c i j m m' n p r size wb:Nat} {G:Nat->Nat} {S S':Nat->Prop} {L L':Nat->Qd} {X:Nat->Qh} {ao:Option Addr} {ρ':Qz} {e:TypeId} {q' v vA:Value} {W0 w w' w2 w4 wr:World}
abbrev Zb:=Nat->Option (Nat × Nat)
structure PD where
 pb:Nat
 db:Nat
 q:Nat
 p:Nat
 mb:Nat
 ρ:Qz
 nb:Int->Nat
 R:List RN
 R':List RN
 last:Int
 v:Value
theorem Qq.heap {S S':Nat->Prop} {w w':World} {p:Nat} {R:List RN} {last:Int} {v:Value} (a:Qq S w p R last v) (k:w.heap.size<=w'.heap.size) (d:∀ b,b<w.heap.size->S b->w'.heap[b]?=w.heap[b]?/\S' b):Qq S' w' p R last v:=by
 have l:=a.lt;have f:=(d p l a.sp).1;refine ⟨(d p l a.sp).2,(Xb3 f).trans a.c0,(Xb3 f).trans a.c1,(Xb3 f).trans a.c2,(Qb1 f _).trans a.f0,(Qb1 f _).trans a.f2,?_,?_,a.few,?_,a.apart⟩
 ·exact Q8 a.row λb e=>(d b (a.row.lt b e).2 (a.srow b e).1).1
 ·exact λg e=>⟨(d g (a.row.lt g e).2 (a.srow g e).1).2,(a.srow g e).2⟩
 intro n o;have c:=a.node n o;refine ⟨c.an,c.few,c.nil,c.tag,c.text,?_,λh e=>⟨(d _ (c.own h e).2 (c.own h e).1).2,Xb4 (c.own h e).2 k⟩⟩;intro j q;obtain ⟨b,x,e,i,r,s,t,u⟩:=c.at' j q;have m:=(d b i (c.own _ e).1).1;exact ⟨b,x,e,Xb4 i k,(Xb3 m).trans r,(Xb3 m).trans s,t,u⟩
theorem Ql.heap {c:Qz} {nb:Int->Nat} {d:Nat} {g:Option Nat} {w w':World} {q:Nat} {R:List RN} {last:Int} (a:Ql c nb d g w q R last) (h:w.heap.size<=w'.heap.size) (f:∀ b,(c b).isSome=true->w'.heap[b]?=w.heap[b]?):Ql c nb d g w' q R last where
 blk:=(f q (by rw [a.role];rfl)).trans a.blk
 role:=a.role
 mrole:=a.mrole
 map:=a.map.heap (f d (by rw [a.mrole];rfl))
 node:=λn i=>by
  obtain ⟨k,l,m⟩:=a.node n i
  exact ⟨k,l,m.kept (λb j e=>f b (by rw [e];rfl)) (λ_ _=>rfl) rfl⟩
 low:=λb e=>Xb4 (a.low b e) h
 few:=a.few
structure Z7 (own:Zb) (i:Nat) (w:World) (D:PD):Prop where
 pblk:w.heap[D.pb]?=some (.cells #[Xp D.db,Xp D.p] 63 (0,0))
 dblk:w.heap[D.db]?=some (.cells #[Xp D.q] 84 (0,0))
 po:own D.pb=some (i+1,0)
 dbo:own D.db=some (i+1,0)
 dom:Ql D.ρ D.nb D.mb (some (D.nb 1)) w D.q D.R D.last
 ro:∀ b,(D.ρ b).isSome=true->own b=some (i+1,1)
 ref:Qq (λb=>own b=some (i+1,2)) w D.p D.R' D.last D.v
 bare:QA D.R'=QA D.R
 ok:Qw D.R D.last
 fine:Zw D.R
 neat:QbH D.R
variable {D : PD}
theorem Z7.ok' {own:Zb} (a:Z7 own i w D):Qw D.R' D.last:=by rw [<- Qw.bare,a.bare,Qw.bare];exact a.ok
theorem Z7.kept {own d:Zb} (a:Z7 own i w D) (f:w.heap.size<=w'.heap.size) (c:∀ b j,own b=some (i+1,j)->w'.heap[b]?=w.heap[b]?/\d b=own b):Z7 d i w' D where
 pblk:=(c _ _ a.po).1.trans a.pblk
 dblk:=(c _ _ a.dbo).1.trans a.dblk
 po:=(c _ _ a.po).2.trans a.po
 dbo:=(c _ _ a.dbo).2.trans a.dbo
 dom:=a.dom.heap f λb e=>(c _ _ (a.ro b e)).1
 ro:=λb e=>(c _ _ (a.ro b e)).2.trans (a.ro b e)
 ref:=a.ref.heap f λ_ _ e=>⟨(c _ _ e).1,(c _ _ e).2.trans e⟩
 bare:=a.bare
 ok:=a.ok
 fine:=a.fine
 neat:=a.neat
def QbD (own:Zb) (w:World) (a k m:Nat) (e:TypeId) (pat:Nat->Nat->Value) (size:Nat):Prop :=
 ∃ v E,w.cell? (Xa a (k+1))=some v/\w.frozen? (Xa a (k+1))=false/\LAt (λb=>own b=some (0,2)) w e v E pat size/\E.length % 4=0/\E.length<=m/\∀ b,v.ownBlock=some b->own b=some (0,3+k)
theorem LAt.kept {pat:Nat->Nat->Value} (a:LAt S w e v E pat size) (c:w.heap.size<=w'.heap.size) (d:∀ b,v.ownBlock=some b->w'.heap[b]?=w.heap[b]?) (f:∀ b,b<w.heap.size->S b->w'.heap[b]?=w.heap[b]?/\S' b):LAt S' w' e v E pat size := ⟨Q8 a.row d,λi g=>(a.each i g).block f c⟩
theorem QbD.kept {own f:Zb} {w w':World} {a k m g:Nat} {e:TypeId} {pat:Nat->Nat->Value} {size:Nat} (r:QbD own w a k m e pat size) (i:w.heap.size<=w'.heap.size) (j:m<=g) (h:w'.cell? (Xa a (k+1))=w.cell? (Xa a (k+1))/\w'.frozen? (Xa a (k+1))=w.frozen? (Xa a (k+1))) (c:∀ b,own b=some (0,2) \/ own b=some (0,3+k)->w'.heap[b]?=w.heap[b]?/\f b=own b):QbD f w' a k g e pat size:=by obtain ⟨v,E,l,n,o,p,q,d⟩:=r;exact ⟨v,E,h.1.trans l,h.2.trans n,o.kept i (λb e=>(c b (.inr (d b e))).1) λb _ e=>⟨(c b (.inl e)).1,(c b (.inl e)).2.trans e⟩,p,Xb6 q j,λb e=>(c b (.inr (d b e))).2.trans (d b e)⟩
structure Qeb (own:Zb) (w:World) (wb m:Nat):Prop where
 nums:QbD own w wb 0 m 69 (λi=>Qa0 (Z3 i)) 1
 atts:QbD own w wb 1 m 31 (λi=>Qaq (QaF i)) 2
 nods:QbD own w wb 2 m 24 (λi=>JQ (Z3 i)) 5
 pats:QbD own w wb 3 m 25 (λi=>Qaj (Z3 i)) 8
 evts:QbD own w wb 4 m 75 (λi=>Qm7 (Z3 i)) 4
 coms:QbD own w wb 5 m 78 (λi=>QnS (Z3 i)) 2
theorem Qeb.kept {own l:Zb} {w w':World} {a m n:Nat} (h:Qeb own w a m) (c:w.heap.size<=w'.heap.size) (d:m<=n) (f:∀ i,0<i->w'.cell? (Xa a i)=w.cell? (Xa a i)/\w'.frozen? (Xa a i)=w.frozen? (Xa a i)) (o:∀ b j,own b=some (0,2+j)->w'.heap[b]?=w.heap[b]?/\l b=own b):Qeb l w' a n:=by
 have g:∀ k b,own b=some (0,2) \/ own b=some (0,3+k)->w'.heap[b]?=w.heap[b]?/\l b=own b:=λk b e=>by
  rcases e with e|e
  ·exact o b 0 e
  exact o b (k+1) (by rw [e];congr 2;omega)
 exact ⟨h.nums.kept c d (f _ (by omega)) (g 0),h.atts.kept c d (f _ (by omega)) (g 1),h.nods.kept c d (f _ (by omega)) (g 2),h.pats.kept c d (f _ (by omega)) (g 3),h.evts.kept c d (f _ (by omega)) (g 4),h.coms.kept c d (f _ (by omega)) (g 5)⟩
structure QH (W0:World) (own:Zb) (w:World) (wb:Nat) (Ps:List PD) (m:Nat) (k:Int):Prop where
 wo:own wb=some (0,0)
 top:∃ vp,w.cell? (Xa wb 0)=some vp/\w.frozen? (Xa wb 0)=false/\w.ownsRow 0 59 1 vp Ps.length (Ps.map λD=>Xp D.pb)/\∀ b,vp.ownBlock=some b->own b=some (0,1)
 pair:∀ i,(hi:i<Ps.length)->Z7 own i w Ps[i]
 book:Qeb own w wb (20*m)
 low:∀ b,(own b).isSome=true->W0.heap.size<=b/\b<w.heap.size
 base:Xb W0 w
 few:Ps.length<=m
 last:∀ D,D ∈ Ps->D.last<=k
theorem Qhl (a:Below B W0 w) (c:Qi S w w') (f:∀ b,S b->B<=b) (g:B<=W0.heap.size):Below B W0 w' where
 os:=c.os.trans a.os
 tape:=c.tape.trans a.tape
 output:=c.output.trans a.output
 size:=Xb6 a.size c.size
 block:=λk d=>(c.block k (Xb4 d (Xb6 g a.size)) λe=>by have:=f k e;omega).trans (a.block k d)
variable {Ps : List PD}
theorem QH.touch {own:Zb} {k:Int} (a:QH W0 own w wb Ps m k) (l:m<=m') (n:k<=k') (c:Qi S w w') (g:∀ b,S b->own b=none/\W0.heap.size<=b):QH W0 own w' wb Ps m' k':=by
 have f:∀ b,(own b).isSome=true->w'.heap[b]?=w.heap[b]?:=λb e=>c.block b (a.low b e).2 λo=>by rw [(g b o).1] at e;cases e
 have d:=f wb (by rw [a.wo];rfl);obtain ⟨vp,p,q,r,h⟩:=a.top;refine ⟨a.wo,⟨vp,(Xb3 d).trans p,(Qb1 d _).trans q,Q8 r λb e=>f b (by rw [h b e];rfl),h⟩,λi s=>(a.pair i s).kept c.size λb j e=>⟨f b (by rw [e];rfl),rfl⟩,?_,λb e=>⟨(a.low b e).1,Xb4 (a.low b e).2 c.size⟩,Qhl a.base c (λb e=>(g b e).2) X0,Xb6 a.few l,λD t=>Int.le_trans (a.last D t) n⟩;exact a.book.kept c.size (by omega) (λu _=>⟨Xb3 d,Qb1 d _⟩) λb j e=>⟨f b (by rw [e];rfl),rfl⟩
theorem QH.below {own:Zb} {k:Int} (d:QH W0 own w wb Ps m k) (a:m<=m') (b:k<=k') (c:Xb w w'):QH W0 own w' wb Ps m' k' := d.touch a b (S:=λ_=>False) (Qi.of_below c) λ_ e=>e.elim
variable {Ps:List PD}
def TN.nod (n:TN):Qd:=⟨n.d,n.tag,n.key,n.ao,n.an,n.ac,n.text,QP n.ats,Q6 n.ats⟩
def TN.zero:TN:=⟨0,⟨#[]⟩,0,⟨#[]⟩,[],none,0,0⟩
def Jh (N:List TN) (i:Nat):Qd:=(N.getD i TN.zero).nod
theorem Qhf {N:List TN} (a:i<N.length):Jh N i=N[i].nod:=by unfold Jh;rw [Xg a];rfl
theorem Zz.list {N:List TN} (f:Zz B w (.slice ao n c) N) (k:n=N.length) (q:N.length<=1000000) (h:∀ x,x ∈ N->x.ats.length<=5):Jp w ao n (Jh N):=by
 subst k;intro s;rcases f.row.2 with ⟨e,_⟩|⟨g,o,p,e,_,l,_⟩
 ·simp at e;omega
 simp at e;obtain ⟨rfl,rfl⟩:=e;have j:g<w.heap.size:=(Xd0.1 l).1;refine ⟨g,0,rfl,j,λi d=>?_⟩;have a:=f.node _ (Xa0 d);have t:=h _ (Xa0 d);have b:∀ r,r<5->w.cell? (Xa g (0+i*5+r))=N[i].cells[r]?:=λr m=>by rw [Nat.zero_add,f.row.cellAt (i*5+r) (by omega),Qj5 N i r d m]
 rw [Qhf d];refine ⟨b 0 (by omega),b 1 (by omega),b 2 (by omega),b 3 (by omega),b 4 (by omega),⟨?_,a.tag,a.text,QfW a.row a.an a.size⟩⟩;show N[i].an<=maxLen;rw [a.an];unfold maxLen;omega
theorem Qh5 {N:List TN} (b:Jn R W N) (c:∀ n,n ∈ R->n.ats.length<=5):∀ x,x ∈ N->x.ats.length<=5:=λx d=>by obtain ⟨i,a,rfl⟩:=Xa3 d;obtain ⟨f,_,_,_,_,e⟩:=b.2 i (by rw [<- b.1];exact a) a;rw [e];exact c _ (Xa0 f)
theorem QuG (e:QA R'=QA R) {N:List TN} (f:Jn R' W N):Jn R W N:=by
 refine ⟨f.1,λi g h=>?_⟩;obtain ⟨j,b,c,k,l,m⟩:=f.2 i g h;have p:R'.length=R.length:=by have:=congrArg List.length e;rwa [Qah,Qah] at this
 have d:W[i].1<R.length:=by omega
 have n:(R'[W[i].1]).bare=(R[W[i].1]).bare:=by have b:=QeD (R:=R') (i:=W[i].1) (by rw [Qah];exact j);have c:=QeD (R:=R) (i:=W[i].1) (by rw [Qah];exact d);rw [<- b,<- c];simp only [e]
 have a:(R'[W[i].1]).toPN=(R[W[i].1]).toPN:=by have o:=congrArg RN.toPN n;exact o
 refine ⟨d,b,?_,?_,?_,?_⟩
 ·rw [c,a]
 ·rw [k,a]
 ·rw [l,a]
 rw [m,a]
theorem Qsg {q:Value} {N a:List TN} (l:Zz B w q N) (h:Zz B' w q' a) (b:Jn R W N) (g:Jn R W a) (s:W.length<=1000000) (p:∀ n,n ∈ R->n.ats.length<=5) : Xl 26 #[q,q'] w λe w'=>e=.returned (.bool true)/\Xb w w':=by
 obtain ⟨ao,c,rfl⟩:=Qy l.row;obtain ⟨r,u,rfl⟩:=Qy h.row;have el:a.length=N.length:=by rw [b.1,g.1]
 have v:N.length<=1000000:=by rw [b.1];exact s
 have y:=l.list rfl v (Qh5 b p);have m:=h.list rfl (by omega) (Qh5 g p);have z:∀ i,i<N.length->(Jh N i).d=(Jh a i).d/\(Jh N i).t=(Jh a i).t/\(Jh N i).k=(Jh a i).k/\(Jh N i).x=(Jh a i).x/\(Jh N i).an=(Jh a i).an/\(Jh N i).nm=(Jh a i).nm/\(Jh N i).vl=(Jh a i).vl:=λi f=>by
  rw [Qhf f,Qhf (by omega)];have o:i<W.length:=by rw [<- b.1];exact f
  obtain ⟨_,A,C,D,E,F⟩:=b.2 i o f;obtain ⟨_,G,H,I,J,K⟩:=g.2 i o (by omega);have j:N[i].ats=(a[i]'(by omega)).ats:=by rw [F,K]
  refine ⟨?_,?_,?_,?_,?_,?_,?_⟩
  ·show N[i].d=a[i].d;rw [A,G]
  ·show N[i].tag=a[i].tag;rw [C,H]
  ·show N[i].key=a[i].key;rw [D,I]
  ·show N[i].text=a[i].text;rw [E,J]
  ·show N[i].an=a[i].an;rw [(l.node _ (getElem_mem f)).an,(h.node _ (getElem_mem (by omega))).an,j]
  ·show QP N[i].ats=QP a[i].ats;rw [j]
  show Q6 N[i].ats=Q6 a[i].ats;rw [j]
 rw [el] at m ⊢;exact Qnu ao r N.length c u (Jh N) (Jh a) w (by unfold maxLen;omega) y m z
theorem QH.booked {own c:Zb} {k:Int} (a:QH W0 own w wb Ps m k) (p:m<=m') (f:Qi S w w') (q:∀ b,S b->W0.heap.size<=b) (d:∀ b,(own b).isSome=true->c b=own b) (n:∀ b,(c b).isSome=true->W0.heap.size<=b/\b<w'.heap.size) (l:w'.cell? (Xa wb 0)=w.cell? (Xa wb 0)/\w'.frozen? (Xa wb 0)=w.frozen? (Xa wb 0)) (r:∀ b,own b=some (0,1) \/ (∃ i j,own b=some (i+1,j))->¬ S b) (o:Qeb c w' wb (20*m')):QH W0 c w' wb Ps m' k:=by have h:∀ b,own b=some (0,1) \/ (∃ i j,own b=some (i+1,j))->w'.heap[b]?=w.heap[b]?:=λb e=>f.block b (a.low b (by rcases e with e|⟨i,j,e⟩<;>rw [e]<;>rfl)).2 (r b e);obtain ⟨vp,s,t,u,g⟩:=a.top;refine ⟨(d wb (by rw [a.wo];rfl)).trans a.wo,⟨vp,l.1.trans s,l.2.trans t,Q8 u λb e=>h b (.inl (g b e)),λb e=>(d b (by rw [g b e];rfl)).trans (g b e)⟩,λi v=>(a.pair i v).kept f.size λb j e=>⟨h b (.inr ⟨i,j,e⟩),d b (by rw [e];rfl)⟩,o,n,Qhl a.base f q X0,Xb6 a.few p,a.last⟩
theorem LAt.mono {pat:Nat->Nat->Value} (c:LAt S w e v E pat size) (a:∀ b,S b->S' b):LAt S' w e v E pat size := c.kept X0 (λ_ _=>rfl) λb _ e=>⟨rfl,a b e⟩
theorem QH.keptNodes {own:Zb} {k:Int} (a:QH W0 own w wb Ps m k) (C:∀ b,(own b).isSome=true->b<B) (a3:W0.heap.size<=B) (W:B<=w.heap.size) (r:∀ b,vA.ownBlock=some b->own b=some (0,4)) (s:∀ b,v.ownBlock=some b->own b=some (0,5)) (X:EA.length<=20*m) (a4:E.length<=20*m) (Y:E.length % 4=0) (P:Qj7 (λb=>own b=some (0,2)) B wb 1 vA v EA E w w'):∃ L,QH W0 L w' wb Ps (m+1) k:=by
 classical
 obtain ⟨g,d,M,f,R,S',S,T,U,V,a5,N,a6,t,u,a0,G,I,D,o⟩:=P;have a1:wb<B:=C wb (by rw [a.wo];rfl);have H:∀ b,(own b).isSome=true->(if S' b then some (0,2) else if d.ownBlock=some b then some (0,4) else if f.ownBlock=some b then some (0,5) else own b)=own b:=λb c=>by
  have a2:=C b c;by_cases n:S' b
  ·rw [if_pos n];rcases G b n with e|e
   ·exact e.symm
   omega
  rw [if_neg n];by_cases h:d.ownBlock=some b
  ·rw [if_pos h];rcases I b h with e|e
   ·exact (r b e).symm
   omega
  rw [if_neg h];by_cases l:f.ownBlock=some b
  ·rw [if_pos l];rcases (D b l).1 with e|e
   ·exact (s b e).symm
   omega
  rw [if_neg l]
 have A:∀ b,(own b).isSome=true->own b≠some (0,0)->own b≠some (0,4)->own b≠some (0,5)->¬ (b=wb \/ some b=vA.ownBlock \/ some b=v.ownBlock \/ B<=b):=λb c p x F e=>by
  rcases e with e|e|e|e
  ·rw [e] at p;exact p a.wo
  ·exact x (r b e.symm)
  ·exact F (s b e.symm)
  have:=C b c;omega
 have O:∀ b,(own b).isSome=true->own b≠some (0,0)->own b≠some (0,4)->own b≠some (0,5)->w'.heap[b]?=w.heap[b]?:=λb c p x F=>g.block b (a.low b c).2 (A b c p x F);refine ⟨λb=>if S' b then some (0,2) else if d.ownBlock=some b then some (0,4) else if f.ownBlock=some b then some (0,5) else own b,a.booked (Nat.le_succ m) g ?_ H ?_ (o 0 (by omega) (by omega)) ?_ ?_⟩
 ·intro b e;rcases e with e|e|e|e
  ·rw [e];exact (a.low wb (by rw [a.wo];rfl)).1
  ·exact (a.low b (by rw [r b e.symm];rfl)).1
  ·exact (a.low b (by rw [s b e.symm];rfl)).1
  omega
 ·intro b c;have q:(own b).isSome=true->W0.heap.size<=b/\b<w'.heap.size:=λe=>⟨(a.low b e).1,Xb4 (a.low b e).2 g.size⟩;by_cases n:S' b
  ·rcases G b n with e|e
   ·exact q (by rw [e];rfl)
   exact ⟨by omega,e.2⟩
  by_cases h:d.ownBlock=some b
  ·refine ⟨?_,(t.row.lt b h).2⟩;rcases I b h with e|e
   ·exact (q (by rw [r b e];rfl)).1
   omega
  by_cases l:f.ownBlock=some b
  ·refine ⟨?_,(u.row.lt b l).2⟩;rcases (D b l).1 with e|e
   ·exact (q (by rw [s b e];rfl)).1
   omega
  replace c:(if S' b then some (0,2) else if d.ownBlock=some b then some (0,4) else if f.ownBlock=some b then some (0,5) else own b).isSome=true:=c;rw [if_neg n,if_neg h,if_neg l] at c;exact q c
 ·intro b e;rcases e with e|⟨i,j,e⟩
  ·exact A b (by rw [e];rfl) (by rw [e];simp) (by rw [e];simp) (by rw [e];simp)
  exact A b (by rw [e];rfl) (by rw [e];simp) (by rw [e];simp) (by rw [e];simp)
 have y:∀ (z:Nat),z≠1->z≠2->∀ b,own b=some (0,2) \/ own b=some (0,3+z)->w'.heap[b]?=w.heap[b]?/\(if S' b then some (0,2) else if d.ownBlock=some b then some (0,4) else if f.ownBlock=some b then some (0,5) else own b)=own b:=λz p x b e=>by
  have K:(own b).isSome=true:=by rcases e with e|e<;>rw [e]<;>rfl
  refine ⟨O b K ?_ ?_ ?_,H b K⟩
  ·rcases e with e|e<;>rw [e]<;>simp
  ·rcases e with e|e<;>rw [e]<;>simp<;>omega
  rcases e with e|e<;>rw [e]<;>simp<;>omega
 have J:∀ b,S' b->(if S' b then some (0,2) else if d.ownBlock=some b then some (0,4) else if f.ownBlock=some b then some (0,5) else own b)=some (0,2):=λb e=>if_pos e;refine ⟨?_,⟨d,M,S,T,LAt.mono ⟨t.row,t.each⟩ J,N,by omega,λb e=>?_⟩,⟨f,R,U,V,LAt.mono ⟨u.row,u.each⟩ J,by omega,by omega,λb e=>?_⟩,?_,?_,?_⟩
 ·exact a.book.nums.kept g.size (by omega) (o _ (by omega) (by omega)) (y 0 (by omega) (by omega))
 ·show (if S' b then some (0,2) else if d.ownBlock=some b then some (0,4) else if f.ownBlock=some b then some (0,5) else own b)=some (0,4);rw [if_neg (t.apart b e),if_pos e]
 ·show (if S' b then some (0,2) else if d.ownBlock=some b then some (0,4) else if f.ownBlock=some b then some (0,5) else own b)=some (0,5);rw [if_neg (u.apart b e),if_neg (D b e).2,if_pos e]
 ·exact a.book.pats.kept g.size (by omega) (o _ (by omega) (by omega)) (y 3 (by omega) (by omega))
 ·exact a.book.evts.kept g.size (by omega) (o _ (by omega) (by omega)) (y 4 (by omega) (by omega))
 exact a.book.coms.kept g.size (by omega) (o _ (by omega) (by omega)) (y 5 (by omega) (by omega))
def Qvn (S:Nat->Prop) (a f:Nat) (ty:TypeId) (pat:Nat->Nat->Value) (size:Nat) (v:Value) (E:List Value) (l:Value) (w w':World):Prop :=
 Qi (λb=>b=a \/ some b=v.ownBlock \/ some b=l.ownBlock) w w'/\∃ c g,w'.cell? (Xa a (f+1))=some c/\w'.frozen? (Xa a (f+1))=false/\g.length=E.length+4/\(∀ b,c.ownBlock=some b->v.ownBlock=some b \/ w.heap.size<=b)/\(∀ d,d≠f+1->w'.cell? (Xa a d)=w.cell? (Xa a d)/\w'.frozen? (Xa a d)=w.frozen? (Xa a d)) /\
  LAt (λb=>S b \/ some b=l.ownBlock \/ (w.heap.size<=b/\b<w'.heap.size/\some b≠c.ownBlock)) w' ty c g pat size/\∀ b,c.ownBlock=some b->¬ (S b \/ some b=l.ownBlock \/ (w.heap.size<=b/\b<w'.heap.size/\some b≠c.ownBlock))
theorem QH.keptOne {own:Zb} {k:Int} (c:QH W0 own w wb Ps m k) (d:Nat) {ty:TypeId} {pat:Nat->Nat->Value} {l:Value} (r:∀ b,v.ownBlock=some b->own b=some (0,3+d)) (n:∀ b,l.ownBlock=some b->own b=none/\W0.heap.size<=b/\b<w.heap.size) (U:E.length<=20*m) (R:E.length % 4=0) (L:Qvn (λb=>own b=some (0,2)) wb d ty pat size v E l w w') : ∃ p,(Qeb own w wb (20*m)->QbD p w' wb d (20*(m+1)) ty pat size->(∀ q,q≠d->∀ {y:TypeId} {u:Nat->Nat->Value} {t:Nat},QbD own w wb q (20*m) y u t->QbD p w' wb q (20*(m+1)) y u t)->Qeb p w' wb (20*(m+1)))->QH W0 p w' wb Ps (m+1) k:=by
 classical
 obtain ⟨o,g,M,N,O,V,D,A,F,I⟩:=L;have B:∀ b,(own b).isSome=true->(if g.ownBlock=some b then some (0,3+d) else if l.ownBlock=some b \/ (w.heap.size<=b/\b<w'.heap.size) then some (0,2) else own b)=own b:=λb a=>by
  have S:=(c.low b a).2;by_cases f:g.ownBlock=some b
  ·rw [if_pos f];rcases D b f with e|e
   ·exact (r b e).symm
   omega
  rw [if_neg f,if_neg];intro e;rcases e with e|e
  ·rw [(n b e).1] at a;cases a
  omega
 have x:∀ b,(own b).isSome=true->own b≠some (0,0)->own b≠some (0,3+d)->¬ (b=wb \/ some b=v.ownBlock \/ some b=l.ownBlock):=λb a s z e=>by
  rcases e with e|e|e
  ·rw [e] at s;exact s c.wo
  ·exact z (r b e.symm)
  rw [(n b e.symm).1] at a;cases a
 have J:∀ b,(own b).isSome=true->own b≠some (0,0)->own b≠some (0,3+d)->w'.heap[b]?=w.heap[b]?:=λb a s z=>o.block b (c.low b a).2 (x b a s z);refine ⟨λb=>if g.ownBlock=some b then some (0,3+d) else if l.ownBlock=some b \/ (w.heap.size<=b/\b<w'.heap.size) then some (0,2) else own b,λH=>c.booked (Nat.le_succ m) o ?_ B ?_ (A 0 (by omega)) ?_ (H c.book ?_ ?_)⟩
 ·intro b e;rcases e with e|e|e
  ·rw [e];exact (c.low wb (by rw [c.wo];rfl)).1
  ·exact (c.low b (by rw [r b e.symm];rfl)).1
  exact (n b e.symm).2.1
 ·intro b a;have C:(own b).isSome=true->W0.heap.size<=b/\b<w'.heap.size:=λe=>⟨(c.low b e).1,Xb4 (c.low b e).2 o.size⟩;have W:W0.heap.size<=w.heap.size:=c.base.size;by_cases f:g.ownBlock=some b
  ·refine ⟨?_,(F.row.lt b f).2⟩;rcases D b f with e|e
   ·exact (C (by rw [r b e];rfl)).1
   omega
  by_cases h:l.ownBlock=some b \/ (w.heap.size<=b/\b<w'.heap.size)
  ·rcases h with e|e
   ·exact ⟨(n b e).2.1,Xb4 (n b e).2.2 o.size⟩
   exact ⟨by omega,e.2⟩
  replace a:(if g.ownBlock=some b then some (0,3+d) else if l.ownBlock=some b \/ (w.heap.size<=b/\b<w'.heap.size) then some (0,2) else own b).isSome=true:=a;rw [if_neg f,if_neg h] at a;exact C a
 ·intro b e;rcases e with e|⟨i,j,e⟩
  ·exact x b (by rw [e];rfl) (by rw [e];simp) (by rw [e];simp;omega)
  exact x b (by rw [e];rfl) (by rw [e];simp) (by rw [e];simp)
 ·refine ⟨g,M,N,O,F.mono λb e=>?_,by omega,by omega,λb e=>if_pos e⟩;have K:¬ g.ownBlock=some b:=λf=>I b f e;show (if g.ownBlock=some b then some (0,3+d) else if l.ownBlock=some b \/ (w.heap.size<=b/\b<w'.heap.size) then some (0,2) else own b)=some (0,2);rw [if_neg K];by_cases h:l.ownBlock=some b \/ (w.heap.size<=b/\b<w'.heap.size)
  ·rw [if_pos h]
  rw [if_neg h];rcases e with e|e|e
  ·exact e
  ·exact absurd (.inl e.symm) h
  exact absurd (.inr ⟨e.1,e.2.1⟩) h
 intro q T y u t P;refine P.kept o.size (by omega) (A _ (by omega)) λb e=>?_;have G:(own b).isSome=true:=by rcases e with e|e<;>rw [e]<;>rfl
 refine ⟨J b G ?_ ?_,B b G⟩
 ·rcases e with e|e<;>rw [e]<;>simp
 rcases e with e|e<;>rw [e]<;>simp<;>omega
variable {D:PD}
theorem Qjy (a:Qw R last):∃ r,∃ d:r<R.length,R[r].id=1/\Qk R 1=(r:Int):=by
 obtain ⟨n,b,c,_⟩:=a.root;rcases QaG a.ids 1 with e|⟨e,_⟩
 ·exact e
 exact absurd c (e n b)
theorem Qej (e:QA R'=QA R):R'.length=R.length:=by have:=congrArg List.length e;rwa [Qah,Qah] at this
theorem Qm3 (e:QA R'=QA R) (i:Int):Qk R' i=Qk R i:=by rw [<- Qda R',e,Qda]
theorem QgI (e:QA R'=QA R) (f a:Nat) (d:Int):Qo R' f a d=Qo R f a d:=by rw [<- Qjd R',e,Qjd]
theorem Qtt (e:QA R'=QA R) (i:Nat):Qg R' i=Qg R i:=by rw [<- Qha R',e,Qha]
theorem QdV (b:Qw R last) (c:r<R.length) (d:Int):(Qo R R.length r d).length<=R.length:=by obtain ⟨rk,a⟩:=b.up;exact Qgn a b.ids (Qae a c)
theorem QH.lists {own:Zb} {k:Int} (j:QH W0 own w wb Ps m k) : ∃ a c v E,w.cell? (Xa wb (1+1))=some a/\w.frozen? (Xa wb (1+1))=false/\Qdf (λb=>own b=some (0,2)) w a c/\w.cell? (Xa wb (1+2))=some v/\w.frozen? (Xa wb (1+2))=false/\Qjv (λb=>own b=some (0,2)) w v E /\ c.length % 4=0/\c.length<=20*m/\E.length % 4=0/\E.length<=20*m/\(∀ b,a.ownBlock=some b->own b=some (0,4))/\(∀ b,v.ownBlock=some b->own b=some (0,5)):=by obtain ⟨a,c,l,n,f,o,p,g⟩:=j.book.atts;obtain ⟨v,E,q,r,h,s,t,i⟩:=j.book.nods;exact ⟨a,c,v,E,l,n,⟨f.row,f.each,λb e d=>by rw [g b e] at d;simp at d⟩,q,r,⟨h.row,h.each,λb e d=>by rw [i b e] at d;simp at d⟩,o,p,s,t,g,i⟩
theorem QwM p own w w' a q m k (c:QH p own w a q m k) (O:m<=400000000) (h:Xb w w') {l:Value} {N:List TN} (z:Zz w.heap.size w' l N) (P:N.length<=1000000) (u:∀ n,n ∈ N->n.ats.length<=5) : Xl 28 #[.pointer (some (Xa a 1)),l] w' λe w2=>e=.returned (.tuple #[])/\∃ x,QH p x w2 a q (m+1) k:=by
 have r:=c.below (Nat.le_refl m) (Int.le_refl k) h;obtain ⟨A,B,v,E,C,D,F,G,H,I,J,K,s,L,f,g⟩:=r.lists;have d:∀ b,(own b).isSome=true->b<w.heap.size:=λb e=>(c.low b e).2;have y:a<w.heap.size:=d a (by rw [c.wo];rfl);have o:∀ b j,own b=some (0,3+j)->b≠a:=λb j e i=>by rw [i,c.wo] at e;simp at e;omega
 refine (Qp8 (λb=>own b=some (0,2)) w.heap.size a 1 A v B E l N w' (by omega) J (by omega) s h.size (λb e=>d b (by rw [e];rfl)) (by omega) u y (λe=>by rw [c.wo] at e;simp at e) (λb e=>⟨d b (by rw [f b e];rfl),o b 1 (f b e)⟩) (λb e=>⟨d b (by rw [g b e];rfl),o b 2 (g b e),λi=>by have t:=f b i;rw [g b e] at t;simp at t⟩) C D F G H I z).mono ?_;rintro e w2 ⟨rfl,M⟩;exact ⟨rfl,r.keptNodes d c.base.size h.size f g K L s M⟩
theorem Qwo s own w w' a t m k (c:QH s own w a t m k) (U:m<=400000000) (u:Xb w w') {l:Value} (y:w'.ownsRow w.heap.size 3 1 l n xs) (V:n<=1000000) : Xl 31 #[.pointer (some (Xa a 1)),l] w' λe w2=>e=.returned (.tuple #[])/\∃ p,QH s p w2 a t (m+1) k:=by
 have z:=c.below (Nat.le_refl m) (Int.le_refl k) u;obtain ⟨v,E,D,F,A,B,G,j⟩:=z.book.nums;have q:∀ b,(own b).isSome=true->b<w.heap.size:=λb e=>(c.low b e).2;have T:a<w.heap.size:=q a (by rw [c.wo];rfl);have h:∀ b,l.ownBlock=some b->w.heap.size<=b/\b<w'.heap.size:=λb e=>y.lt b e;have o:∀ b,l.ownBlock=some b->own b=none:=λb e=>by cases H:own b with| none=>rfl| some x=>have:=q b (by rw [H];rfl);have:=(h b e).1;omega
 refine (Qrb (λb=>own b=some (0,2)) a 1 v E l n xs w' (by omega) B (λb e=>Xb4 (q b (by rw [e];rfl)) u.size) (by omega) D F ⟨A.row,A.each,λb e g=>by rw [j b e] at g;simp at g⟩ (Qfi y) (λe=>by rw [c.wo] at e;simp at e) (λe=>by have:=j a e.symm;rw [c.wo] at this;simp at this) (λe=>by have:=(h a e.symm).1;omega) ?_ (λb e g=>by rw [o b e] at g;cases g)).mono ?_
 ·cases I:l.ownBlock with| none=>exact .inl rfl| some b=>exact .inr λe=>by have:=j b e.symm;rw [o b I] at this;cases this
 rintro e w2 ⟨rfl,J,K,L,M,N,O,P,R,r⟩;obtain ⟨p,C⟩:=z.keptOne 0 (ty:=69) (pat:=λi=>Qa0 (Z3 i)) (size:=1) (v:=v) (E:=E) (l:=l) j (λb e=>⟨o b e,Xb6 c.base.size (h b e).1,(h b e).2⟩) G B ⟨J,K,L,M,N,O,P,R,⟨r.row,r.each⟩,r.apart⟩;refine ⟨rfl,p,C λf S d=>⟨S,d 1 (by omega) f.atts,d 2 (by omega) f.nods,d 3 (by omega) f.pats,d 4 (by omega) f.evts,d 5 (by omega) f.coms⟩⟩
theorem Qvd {own:Zb} (a:Z7 own i w D) (c:r<D.R.length) (b:D.R[r].id=1) : Xl 25 #[Xp D.db] w λe w'=>∃ v,e=.returned v/\∃ N,Zz w.heap.size w' v N/\Jn D.R (Qo D.R D.R.length r 0) N/\Xb w w':=by refine QvI D.db D.q w (λv w'=>∃ N,Zz w.heap.size w' v N/\Jn D.R (Qo D.R D.R.length r 0) N/\Xb w w') (Qj a.dblk 0 _ rfl) (Qa ((Qum D.ρ D.nb D.mb w D.q D.R D.last a.dom a.ok r c b).mono ?_));rintro e w' ⟨q,N,rfl,d,f,g⟩;exact ⟨q,rfl,N,d,f,g⟩
theorem QvZ {own:Zb} (a:Z7 own i w D) (c:r<D.R.length) (b:D.R[r].id=1) : Xl 29 #[Xp D.db] w λe w'=>∃ v,e=.returned v/\w'.ownsRow w.heap.size 3 1 v (Qm D.R D.R.length r).length (Qs (Qm D.R D.R.length r))/\Xb w w':=by refine Qrh D.db D.q w (λv w'=>w'.ownsRow w.heap.size 3 1 v (Qm D.R D.R.length r).length (Qs (Qm D.R D.R.length r))/\Xb w w') (Qj a.dblk 0 _ rfl) (Qa ((Qnp D.ρ D.nb D.mb w D.q D.R D.last a.dom a.ok r c b).mono ?_));rintro e w' ⟨v,rfl,d,f⟩;exact ⟨v,rfl,d,f⟩
theorem QoJ {own:Zb} (a:Z7 own i w D) (c:r<D.R.length) (b:D.R[r].id=1) : Xl 32 #[Xp D.db] w λe w'=>∃ v,e=.returned v/\v=Xi ((D.R.length:Int)-((Qm D.R D.R.length r).length:Int))/\Xb w w':=by refine QpU D.db D.q w (λv w'=>v=Xi ((D.R.length:Int)-((Qm D.R D.R.length r).length:Int))/\Xb w w') (Qj a.dblk 0 _ rfl) (Qa ((QwO D.ρ D.nb D.mb w D.q D.R D.last a.dom a.ok r c b).mono ?_));rintro e w' ⟨rfl,d⟩;exact ⟨_,rfl,rfl,d⟩
theorem QkB (f:Qq S w p R' l2 v) (b:QA R'=QA R) (d:Qw R last) (j:r<R.length) (i:Qk R 1=(r:Int)) : Xl 27 #[Xp p] w λe w'=>∃ q N,e=.returned q/\Zz w.heap.size w' q N/\Jn R (Qo R R.length r 0) N/\Xb w w':=by
 have c:=Qej b;have s:=f.few;have t:=QdV d j 0;have g:Qw R' last:=by rw [<- Qw.bare,b,Qw.bare];exact d
 obtain ⟨rk,k⟩:=g.up;have h:=Qae k (a:=r) (by omega);refine (Qw0 _ p R' l2 v w f r R'.length (by rw [Qm3 b];exact i) (by omega) h (by rw [QgI b,c];omega)).mono ?_;rintro e w' ⟨q,N,rfl,l,m,n,o⟩;refine ⟨q,N,rfl,l,?_,o⟩;have:Jn R' (Qo R' R'.length r 0) N:=⟨m,n⟩;rw [QgI b,c] at this;exact QuG b this
theorem Qi5 (g:Qq S w p R' l2 v) (b:QA R'=QA R) (f:Qw R last) (k:r<R.length) (j:Qk R 1=(r:Int)) : Xl 30 #[Xp p] w λe w'=>∃ v,e=.returned v/\w'.ownsRow w.heap.size 3 1 v (Qm R R.length r).length (Qs (Qm R R.length r))/\Xb w w':=by
 have d:=Qej b;have o:=g.few;have s:=QdV f k 0;have h:Qw R' last:=by rw [<- Qw.bare,b,Qw.bare];exact f
 obtain ⟨rk,l⟩:=h.up;have i:=Qae l (a:=r) (by omega);refine (QrF _ p R' l2 v w g r R'.length (by rw [Qm3 b];exact j) (by omega) i (by rw [QgI b,d];omega)).mono ?_;rintro e w' ⟨q,rfl,c,m⟩;refine ⟨q,rfl,?_,m⟩;have n:Qcu R' (Qo R' R'.length r 0) (Qo R' R'.length r 0).length=Qs (Qm R R.length r):=by rw [QgI b,d,<- Qc2 R R.length r 0];unfold Qcu Qs;rw [take_length,map_map];refine map_congr_left λx _=>?_;show Value.int .i64 (Qg R' x.1)=Value.int .i64 (Qg R x.1);rw [Qtt b]
 rw [n] at c;have c:w'.ownsRow w.heap.size 3 1 q (Qs (Qm R R.length r)).length (Qs (Qm R R.length r)):=c;rw [QaR] at c;exact c
theorem QvD {own:Zb} (a:Z7 own i w D) (c:r<D.R.length) (b:Qk D.R 1=(r:Int)) : Xl 27 #[Xp D.p] w λe w'=>∃ q N,e=.returned q/\Zz w.heap.size w' q N/\Jn D.R (Qo D.R D.R.length r 0) N/\Xb w w':=QkB a.ref a.bare a.ok c b
theorem Qlm {own:Zb} (a:Z7 own i w D) (c:r<D.R.length) (b:Qk D.R 1=(r:Int)) : Xl 30 #[Xp D.p] w λe w'=>∃ v,e=.returned v/\w'.ownsRow w.heap.size 3 1 v (Qm D.R D.R.length r).length (Qs (Qm D.R D.R.length r))/\Xb w w':=Qi5 a.ref a.bare a.ok c b
def Qdw (S T:Nat->Prop) (w4:World) (p:Nat) (R:List RN) (last:Int) (c:Nat->Qh) (j:Nat) (wr:World):Prop :=
 ∃ R' a,Qq (JH S w4 wr) wr p R' (QC R last c j).2 a/\(QA R'=QA (QC R last c j).1/\∀ b,pv p a b->T b \/ w4.heap.size<=b)/\Qi T w4 wr
theorem Qdw.grow {T:Nat->Prop} (i:Qdw S T w4 p R last X j wr) (a:Xb wr w'):Qdw S T w4 p R last X j w':=by
 obtain ⟨R',d,f,g,h⟩:=i;refine ⟨R',d,(f.below a).mono λb c e=>?_,g,h.trans (Qi.of_below a)⟩;rcases e with e|e
 ·exact .inl e
 exact .inr ⟨e.1,c⟩
theorem Qtz {T:Nat->Prop} (C:Qdw S T w4 p R last X j wr) (t:Qw (QC R last X j).1 (QC R last X j).2) (u:(QC R last X j).2<=4611686018427387904) (v:(X j).Ok) : Xl 37 #[Xp p,(X j).val] wr λe w'=>e=.returned (.bool (canP (QC R last X j).1 (QC R last X j).2 (X j)))/\Qau (canP (QC R last X j).1 (QC R last X j).2 (X j)) (Qdw S T w4 p R last X (j+1) w') (Qdw S T w4 p R last X j w'):=by
 obtain ⟨R',x,y,⟨c,f⟩,k⟩:=C;have s:Qw R' (QC R last X j).2:=by rw [<- Qw.bare,c,Qw.bare];exact t
 have z:canP R' (QC R last X j).2 (X j)=canP (QC R last X j).1 (QC R last X j).2 (X j):=by rw [<- Qhh R',c,Qhh]
 refine (QkP _ p R' _ x (X j) v wr u s y).mono ?_;rintro e w' ⟨l,A,m,E,g,⟨d,B⟩,_,a⟩;rw [z] at l a;have D:=k.size;have n:Qi T w4 w':=k.trans (A.mono λb _ e=>by
  rcases f b e with e|e
  ·exact .inl e
  exact .inr e)
 have o:∀ b,pv p g b->T b \/ w4.heap.size<=b:=λb e=>by
  rcases e with e|e
  ·exact f b (.inl e)
  rcases B b e with e|e
  ·exact f b (.inr e)
  exact .inr (by omega)
 have q:∀ b,b<w'.heap.size->JH (JH S w4 wr) wr w' b->JH S w4 w' b:=λb r e=>by
  rcases e with (e|e)|e
  ·exact .inl e
  ·exact .inr ⟨e.1,r⟩
  exact .inr ⟨by omega,r⟩
 refine ⟨l,?_⟩;revert a;cases canP (QC R last X j).1 (QC R last X j).2 (X j) with
 | true =>
  intro a;obtain ⟨h,i⟩:=a.1 rfl;refine Qau.yes ⟨m,g,?_,⟨?_,o⟩,n⟩
  ·rw [i] at d;exact d.mono q
  rw [h,QgC,c,<- QgC];rfl
 | false =>
  intro a;obtain ⟨h,i⟩:=a.2 rfl;refine Qau.no ⟨m,g,?_,⟨?_,o⟩,n⟩
  ·rw [i] at d;exact d.mono q
  rw [h];exact c
def Ji (S:Nat->Prop) (w4:World) (p:Nat) (R:List RN) (last:Int) (a:Nat->Qh) (j:Nat) (wr:World):Prop:=Qdw S S w4 p R last a j wr
theorem Ji.grow {S:Nat->Prop} {w4:World} {p:Nat} {R:List RN} {last:Int} {a:Nat->Qh} {j:Nat} {wr w':World} (c:Ji S w4 p R last a j wr) (b:Xb wr w'):Ji S w4 p R last a j w':=Qdw.grow c b
theorem Qkz (d:Ji S w4 p R last X j wr) (a:Qw (QC R last X j).1 (QC R last X j).2) (b:(QC R last X j).2<=4611686018427387904) (c:(X j).Ok) : Xl 37 #[Xp p,(X j).val] wr λe w'=>e=.returned (.bool (canP (QC R last X j).1 (QC R last X j).2 (X j)))/\Qau (canP (QC R last X j).1 (QC R last X j).2 (X j)) (Ji S w4 p R last X (j+1) w') (Ji S w4 p R last X j w'):=Qtz d a b c
structure Qco (D:PD) (X:Nat->Qh) (j0:Nat) (w w4:World) (ρ':Qz) (nb':Int->Nat):Prop where
 run:JK D.R D.last X j0
 dom:Ql ρ' nb' D.mb (some (nb' 1)) w4 D.q (QC D.R D.last X j0).1 (QC D.R D.last X j0).2
 rho:∀ b,(D.ρ b).isSome=true->ρ' b=D.ρ b
 rho':∀ b,(ρ' b).isSome=true->(D.ρ b).isSome=true \/ w.heap.size<=b
 touch:Qi (λb=>(D.ρ b).isSome=true) w w4
theorem Qut (a:List PD) (i:Nat) (c:i<a.length) (E:PD) (b:E.pb=a[i].pb):(a.set i E).map (λD=>Xp D.pb)=a.map λD=>Xp D.pb:=by
 rw [map_set,b];apply ext_getElem
 ·simp
 intro j d f;rw [getElem_set];split
 ·rename_i e;subst e;rw [getElem_map]
 rfl
theorem QH.applied {own:Zb} {wF:World} {k:Int} (d:QH W0 own w wb Ps m k) (W:k<=k') (F:i<Ps.length) {h:Nat} {s:Int->Nat} (f:Qco Ps[i] X h w w4 ρ' s) (Y:Ji (λb=>own b=some (i+1,2)) w4 Ps[i].p Ps[i].R Ps[i].last X h wF) (M:(QC Ps[i].R Ps[i].last X h).2<=k') (S:∀ i,i<h->Qu (X i).key):∃ C a0,QH W0 C wF wb (Ps.set i a0) (m+1) k'/\∀ b,b<w.heap.size->own b=none->C b=none:=by
 classical
 have c:=d.pair i F;obtain ⟨G,H,P,⟨N,_⟩,l⟩:=Y;have T:=f.touch.size;have U:=l.size;obtain ⟨V,O,_⟩:=f.run.ok c.ok c.fine;have u:∀ b,(own b).isSome=true->b<w.heap.size:=λb e=>(d.low b e).2; -- what is new is no other's
 have I:∀ b,(ρ' b).isSome=true->¬ own b=some (i+1,2):=λb e a=>by
  rcases f.rho' b e with g|g
  ·rw [c.ro b g] at a;simp at a
  have:=u b (by rw [a];rfl);omega
 have o:∀ b,(own b).isSome=true->own b≠some (i+1,1)->own b≠some (i+1,2)->wF.heap[b]?=w.heap[b]?:=λb e a1 a2=>by have J:=u b e;exact (l.block b (by omega) a2).trans (f.touch.block b J λa=>a1 (c.ro b a))
 have B:Ql ρ' s Ps[i].mb (some (s 1)) wF Ps[i].q (QC Ps[i].R Ps[i].last X h).1 (QC Ps[i].R Ps[i].last X h).2:=f.dom.touch l I;have r:∀ b,(own b).isSome=true->(if (ρ' b).isSome=true then some (i+1,1) else if JH (λb=>own b=some (i+1,2)) w4 wF b then some (i+1,2) else own b)=own b:=λb e=>by
  have J:=u b e;by_cases n:(ρ' b).isSome=true
  ·rw [if_pos n];rcases f.rho' b n with g|g
   ·exact (c.ro b g).symm
   omega
  rw [if_neg n];by_cases a:JH (λb=>own b=some (i+1,2)) w4 wF b
  ·rw [if_pos a];rcases a with a|a
   ·exact a.symm
   omega
  rw [if_neg a]
 have v:wF.heap[wb]?=w.heap[wb]?:=o wb (by rw [d.wo];rfl) (by rw [d.wo];simp) (by rw [d.wo];simp);obtain ⟨vp,a3,a4,a5,t⟩:=d.top;have z:Qi (λb=>own b=some (i+1,1) \/ own b=some (i+1,2)) w wF:=⟨l.os.trans f.touch.os,l.tape.trans f.touch.tape,l.output.trans f.touch.output,Xb6 T U,λb K x=>(l.block b (by omega) λe=>x (.inr e)).trans (f.touch.block b K λe=>x (.inl (c.ro b e)))⟩;refine ⟨λb=>if (ρ' b).isSome=true then some (i+1,1) else if JH (λb=>own b=some (i+1,2)) w4 wF b then some (i+1,2) else own b,⟨Ps[i].pb,Ps[i].db,Ps[i].q,Ps[i].p,Ps[i].mb,ρ',s,(QC Ps[i].R Ps[i].last X h).1,G,(QC Ps[i].R Ps[i].last X h).2,H⟩,?_,λb K e=>?_⟩;rotate_left
 ·show (if (ρ' b).isSome=true then some (i+1,1) else if JH (λb=>own b=some (i+1,2)) w4 wF b then some (i+1,2) else own b)=none;rw [if_neg,if_neg,e]
  ·intro a;rcases a with a|a
   ·rw [e] at a;cases a
   omega
  intro a;rcases f.rho' b a with g|g
  ·rw [c.ro b g] at e;cases e
  omega
 refine ⟨(r wb (by rw [d.wo];rfl)).trans d.wo,⟨vp,(Xb3 v).trans a3,(Qb1 v _).trans a4,?_,λb e=>(r b (by rw [t b e];rfl)).trans (t b e)⟩,λL D=>?_,?_,λb e=>?_,Qhl d.base z (λb e=>?_) X0,?_,λE a6=>?_⟩
 ·rw [length_set,Qut Ps i F ⟨Ps[i].pb,Ps[i].db,Ps[i].q,Ps[i].p,Ps[i].mb,ρ',s,(QC Ps[i].R Ps[i].last X h).1,G,(QC Ps[i].R Ps[i].last X h).2,H⟩ rfl];exact Q8 a5 λb e=>o b (by rw [t b e];rfl) (by rw [t b e];simp) (by rw [t b e];simp)
 ·rw [length_set] at D;by_cases e:i=L
  ·subst e;rw [getElem_set_self];refine ⟨?_,?_,(r _ (by rw [c.po];rfl)).trans c.po,(r _ (by rw [c.dbo];rfl)).trans c.dbo,B,λb e=>if_pos e,P.heap X0 λb _ e=>⟨rfl,?_⟩,N,V,O,f.run.neat c.ok c.fine c.neat S⟩
   ·exact (o _ (by rw [c.po];rfl) (by rw [c.po];simp) (by rw [c.po];simp)).trans c.pblk
   ·exact (o _ (by rw [c.dbo];rfl) (by rw [c.dbo];simp) (by rw [c.dbo];simp)).trans c.dblk
   show (if (ρ' b).isSome=true then some (i+1,1) else if JH (λb=>own b=some (i+1,2)) w4 wF b then some (i+1,2) else own b)=some (i+1,2);have x:¬ (ρ' b).isSome=true:=λa=>by
    rcases e with e|e
    ·exact I b a e
    have:=f.dom.low b a;omega
   rw [if_neg x,if_pos e]
  rw [getElem_set_ne e];exact (d.pair L D).kept z.size λb j y=>⟨o b (by rw [y];rfl) (by rw [y];simp;omega) (by rw [y];simp;omega),r b (by rw [y];rfl)⟩
 ·exact d.book.kept z.size (by omega) (λa8 _=>⟨Xb3 v,Qb1 v _⟩) λb j e=>⟨o b (by rw [e];rfl) (by rw [e];simp) (by rw [e];simp),r b (by rw [e];rfl)⟩
 ·have a7:=d.base.size;have A:(own b).isSome=true->W0.heap.size<=b/\b<wF.heap.size:=λe=>⟨(d.low b e).1,by have:=u b e;omega⟩;replace e:(if (ρ' b).isSome=true then some (i+1,1) else if JH (λb=>own b=some (i+1,2)) w4 wF b then some (i+1,2) else own b).isSome=true:=e;by_cases n:(ρ' b).isSome=true
  ·refine ⟨?_,B.low b n⟩;rcases f.rho' b n with g|g
   ·exact (A (by rw [c.ro b g];rfl)).1
   omega
  rw [if_neg n] at e;by_cases a:JH (λb=>own b=some (i+1,2)) w4 wF b
  ·rcases a with a|a
   ·exact A (by rw [a];rfl)
   exact ⟨by omega,a.2⟩
  rw [if_neg a] at e;exact A e
 ·rcases e with e|e
  ·exact (d.low b (by rw [e];rfl)).1
  exact (d.low b (by rw [e];rfl)).1
 ·rw [length_set];have:=d.few;omega
 rcases Xb2 a6 with e|e
 ·exact Int.le_trans (d.last E e) W
 rw [e];exact M
theorem Qv6 {own:Zb} (o:Z7 own i w D) (z:∀ b,(own b).isSome=true->b<w.heap.size) (f:Xb w w2) (L:JV w ao n X) (p:w2.rowIs w.heap.size 29 ((n+3)*8) (Jm (J1 X n))) (M:D.last+n<=4611686018427387904) (s:n<=1099511627776) (N:∀ i,i<n->(X i).Ok/\(X i).Ints) : Xl 34 #[Xp D.db,.slice (QaV ao w.heap.size) (Qbo ao n) (Qby ao n)] w2 λe w3=>∃ x u,e=.returned (.tuple #[Xi x,Xi u])/\∃ c ρ' k,c<=n/\((c=n/\x=0/\u=0) \/ (c<n/\canP (QC D.R D.last X c).1 (QC D.R D.last X c).2 (X c)=false/\x=4/\u=c)) /\ w3.rowIs w.heap.size 29 ((n+3)*8) (Jm (J1 X n))/\w.heap.size<=w3.heap.size/\(∀ b,b<w.heap.size->own b≠some (i+1,1)->w3.heap[b]?=w.heap[b]?)/\∀ w4,Qi (λb=>b=w.heap.size) w3 w4->Qco D X c w w4 ρ' k:=by
 have A:∀ b,(D.ρ b).isSome=true->b<w.heap.size:=λb e=>z b (by rw [o.ro b e];rfl);have E:Z7 own i w2 D:=o.kept f.size λb j e=>⟨f.block b (z b (by rw [e];rfl)),rfl⟩;have v:0<n->∃ r,ao=some r:=λl=>by obtain ⟨b,V,e,_⟩:=L l;exact ⟨_,e⟩
 have m:Qbo ao n=n:=by
  unfold Qbo;cases ao with
  | none =>
   rw [if_pos rfl];by_cases l:0<n
   ·obtain ⟨r,e⟩:=v l;cases e
   omega
  | some r=>rw [if_neg (by simp)]
 rw [m];have B:D.ρ w.heap.size=none:=by cases I:D.ρ w.heap.size with| none=>rfl| some x=>have:=A _ (by rw [I];rfl);omega
 have O:JV w2 (QaV ao w.heap.size) n X:=λl=>by
  obtain ⟨r,e⟩:=v l;refine ⟨w.heap.size,0,?_,p.lt,λj U=>?_⟩
  ·unfold QaV;rw [if_neg (by rw [e];simp)]
  rw [Nat.zero_add,p.cell (by omega)];refine congrArg some (Qnr ?_);unfold J1;rw [if_pos (by omega)]
 have F:∀ a,QaV ao w.heap.size=some a->D.ρ a.block=none:=λa e=>by
  unfold QaV at e;split at e
  ·cases e
  cases e;exact B
 refine Qki D.db D.q w2 _ _ _ _ (Qj E.dblk 0 _ rfl) (Qa ((Qmt D.ρ D.nb D.mb w2 D.q D.R D.last E.dom o.ok o.fine (QaV ao w.heap.size) n (Qby ao n) X M s O F N).mono ?_));rintro e w3 ⟨c,C,G,⟨k,ρ',d,P⟩,H⟩;have S:=f.size;have T:=d.1.size;have J:=p.lt;have y:w3.rowIs w.heap.size 29 ((n+3)*8) (Jm (J1 X n))/\w.heap.size<=w3.heap.size/\(∀ b,b<w.heap.size->own b≠some (i+1,1)->w3.heap[b]?=w.heap[b]?)/\∀ w4,Qi (λb=>b=w.heap.size) w3 w4->Qco D X c w w4 ρ' k:=by
  refine ⟨p.of_block (d.1.block _ J (by rw [B];simp)),by omega,λb t K=>(d.1.block b (by omega) λe=>K (o.ro b e)).trans (f.block b t),λw4 h=>⟨G,P.touch h λb e=>?_,d.2.1,λb e=>?_,⟨h.os.trans (d.1.os.trans f.os),h.tape.trans (d.1.tape.trans f.tape),h.output.trans (d.1.output.trans f.output),Xb6 (by omega) h.size,λb t s=>(h.block b (by omega) (by omega)).trans ((d.1.block b (by omega) s).trans (f.block b t))⟩⟩⟩
  ·rcases d.2.2 b e with g|g
   ·have:=A b g;omega
   omega
  rcases d.2.2 b e with g|g
  ·exact .inl g
  exact .inr (by omega)
 rcases H with ⟨m,rfl⟩|⟨m,g,rfl⟩
 ·exact ⟨0,0,rfl,c,ρ',k,C,.inl ⟨m,rfl,rfl⟩,y⟩
 exact ⟨4,c,rfl,c,ρ',k,C,.inr ⟨m,g,rfl,rfl⟩,y⟩
theorem Qm6 {own:Zb} (a:Z7 own i w D) {f:Nat} {d:Int->Nat} (c:Qco D X f w w4 ρ' d):Ji (λb=>own b=some (i+1,2)) w4 D.p D.R D.last X 0 w4 := ⟨D.R',D.v,a.ref.heap c.touch.size λb g e=>⟨c.touch.block b g λh=>by rw [a.ro b h] at e;simp at e,.inl e⟩,⟨a.bare,λb e=>.inl (e.elim (λe=>e▸a.ref.sp) λe=>(a.ref.srow b e).1)⟩,Qi.of_below X4⟩
theorem Qt7 a7 own w a8 q m k (U:QH a7 own w a8 q m k) (i:Nat) (a0:i<q.length) ao (n c:Nat) d (S:JV w ao n d) (V:0<n->∀ a,ao=some a->own a.block=none) (aH:n*88<=140737488351232) (aM:n<=1099511627776) (aY:k+n<=4611686018427387904) (a9:∀ i,i<n->(d i).Ok/\(d i).Ints) (aN:∀ i,i<n->Qu (d i).key) : Xl 18 #[Xp (q[i].pb),.slice ao n c] w λe w'=>e=.returned (.bool true)/\∃ N T,QH a7 N w' a8 (q.set i T) (m+1) (k+n):=by
 have l:=U.pair i a0;have ag:∀ b,(own b).isSome=true->b<w.heap.size:=λb e=>(U.low b e).2;have aW:q[i].last<=k:=U.last _ (Xa0 a0);have ah:Hid (∀ w4 wF f ρ' h,f<=n->Qco q[i] d f w w4 ρ' h->Ji (λb=>own b=some (i+1,2)) w4 q[i].p q[i].R q[i].last d f wF->∃ N T,QH a7 N wF a8 (q.set i T) (m+1) (k+n)):=Qa λw4 wF f ρ' h I u y=>let ⟨N,T,aI,_⟩:=U.applied (by omega) a0 u y (by have:=(u.run.ok l.ok l.fine).2.2;omega) (λi a0=>aN i (by omega));⟨N,T,aI⟩
 clear U;generalize q[i]=D at *;have a4:D.pb<w.heap.size:=Q9 l.pblk;have aJ:Hid (∀ w2,Xb w w2->w2.rowIs w.heap.size 29 ((n+3)*8) (Jm (J1 d n))->Xl 34 #[Xp D.db,.slice (QaV ao w.heap.size) (Qbo ao n) (Qby ao n)] w2 λe w3=>∃ x L,e=.returned (.tuple #[Xi x,Xi L])/\∃ f ρ' h,f<=n/\((f=n/\x=0/\L=0) \/ (f<n/\canP (QC D.R D.last d f).1 (QC D.R D.last d f).2 (d f)=false/\x=4/\L=f)) /\ w3.rowIs w.heap.size 29 ((n+3)*8) (Jm (J1 d n))/\w.heap.size<=w3.heap.size/\(∀ b,b<w.heap.size->own b≠some (i+1,1)->w3.heap[b]?=w.heap[b]?)/\∀ w4,Qi (λb=>b=w.heap.size) w3 w4->Qco D d f w w4 ρ' h):=Qa λw2 O aS=>Qv6 l ag O S aS (by omega) aM a9;have aa:=Qj l.pblk 0 (Xp D.db) rfl;have aK:=Qj l.pblk 1 (Xp D.p) rfl;have W:own D.pb≠some (i+1,1)/\own D.pb≠some (i+1,2):=by rw [l.po];simp
 -- what the loop reads is kept
 have X:Hid (∀ w4 wr f ρ' h,Qco D d f w w4 ρ' h->Qi (λb=>own b=some (i+1,2)) w4 wr->wr.cell? (Xa D.pb 1)=some (Xp D.p)/\JV wr ao n d):=Qa λw4 wr f ρ' h u o=>by have M:∀ b,b<w.heap.size->own b≠some (i+1,1)->own b≠some (i+1,2)->wr.heap[b]?=w.heap[b]?:=λb J s t=>(o.block b (Xb4 J u.touch.size) t).trans (u.touch.block b J λe=>s (l.ro b e));refine ⟨(Xb3 (M _ a4 W.1 W.2)).trans aK,λK=>?_⟩;obtain ⟨b,g,e,v⟩:=S K;have J:=M b v.lt (by rw [V K _ e];simp) (by rw [V K _ e];simp);exact ⟨b,g,e,Xb4 v.lt (Xb6 u.touch.size o.size),λj I=>(Xb3 J).trans (v.cell j I)⟩
 have al:Hid (∀ w3,w.heap.size<=w3.heap.size->(∀ b,b<w.heap.size->own b≠some (i+1,1)->w3.heap[b]?=w.heap[b]?)->w3.cell? (Xa D.pb 0)=some (Xp D.db)/\JV w3 ao n d):=Qa λw3 aT M=>by refine ⟨(Xb3 (M _ a4 W.1)).trans aa,λK=>?_⟩;obtain ⟨b,g,e,v⟩:=S K;have J:=M b v.lt (by rw [V K _ e];simp);exact ⟨b,g,e,Xb4 v.lt aT,λj I=>(Xb3 J).trans (v.cell j I)⟩
 have Y:Hid (∀ w4 wr j f ρ' h,Qco D d f w w4 ρ' h->j<=f->j<n->Ji (λb=>own b=some (i+1,2)) w4 D.p D.R D.last d j wr->Xl 37 #[Xp D.p,(d j).val] wr λe w'=>e=.returned (.bool (canP (QC D.R D.last d j).1 (QC D.R D.last d j).2 (d j)))/\Qau (canP (QC D.R D.last d j).1 (QC D.R D.last d j).2 (d j)) (Ji (λb=>own b=some (i+1,2)) w4 D.p D.R D.last d (j+1) w') (Ji (λb=>own b=some (i+1,2)) w4 D.p D.R D.last d j w')):=Qa λw4 wr j f ρ' h u I aO y=>by have ab:JK D.R D.last d j:=λaU aI=>u.run aU (by omega);obtain ⟨s,_,a1⟩:=ab.ok l.ok l.fine;exact Qkz y s (by omega) (a9 j aO).1
 have ap:Hid (∀ w4 f ρ' h,Qco D d f w w4 ρ' h->Ji (λb=>own b=some (i+1,2)) w4 D.p D.R D.last d 0 w4):=Qa λw4 f ρ' h u=>Qm6 l u;have ai:=Qa (QlB ao n c d w aH S);clear l ag S V a9 W aK;go_enter Tryz.func18,Tryz.ntmps18;go_wp2_with fail;refine (Qb ai).mono ?_;rintro e w2 ⟨rfl,O,aq⟩;have aV:=(Xh O D.pb 0 a4).trans aa;have ar:=Qa O;have au:=Qa aq;clear O aq ai aa;go_wp2_with fail
 go_region_held3 (λw'=>w'.cell? (Xa D.pb 0)=some (Xp D.db))
  (first
   | go_keep
   | exact av)
  (first|(go_at_call 35;refine (Qw3 ao w.heap.size n c _ (by omega)).mono ?_;rintro e w' ⟨rfl,aw⟩;rw [aw];clear aw)|(go_at_call 34;refine (Qb aJ _ ar.out.drew (au.out.of_block rfl)).mono ?_;rintro e w3 ⟨x,L,rfl,f,ρ',h,aX,aj,ax,ay,az,aA⟩;obtain ⟨av,aB⟩:=al.out w3 ay az))
 have aC:=Qa aA;have a2:=Qa aj;clear aA aj az ay aJ al av au ar aV;go_wp2_with fail;refine (Qvw ao w.heap.size n c d w3 aH aB ax).mono ?_;rintro e w4 ⟨rfl,aD⟩;have B:=Qa (aC.out w4 aD);have aE:=Qa (ap.out w4 f ρ' h B.out);clear aB ax aD aC ap;go_wp2;go_loopw [9,10] (λac _ wr=>∃ j:Nat,j<=f/\ac=Xi j/\Hid (Ji (λb=>own b=some (i+1,2)) w4 D.p D.R D.last d j wr)) (λac _ _=>n-(intOf ac).toNat);·exact ⟨0,X3,rfl,aE⟩
 case round =>
  obtain ⟨j,I,rfl,y⟩:=hrel;clear aE;by_cases aF:j<n
  ·have aP:(j:Int)<(n:Int):=by omega
   obtain ⟨b,g,aQ,_⟩:=(X.out w4 wr f ρ' h B.out (by obtain ⟨_,_,_,_,o⟩:=y.out;exact o)).2 (by omega);subst aQ;obtain ⟨C,id,pa,bf,E,F,nm,G,P⟩:∃ C id pa bf E F nm G,d j=⟨C,id,pa,bf,E,F,nm,G⟩:=⟨_,_,_,_,_,_,_,_,rfl⟩;have ad:Hid (∀ w',Qi (λb=>own b=some (i+1,2)) w4 w'->w'.cell? (Xa D.pb 1)=some (Xp D.p)/\w'.cell? (Xa b (g+j*8))=some (Xi C)/\w'.cell? (Xa b (g+j*8+1))=some (Xi id)/\w'.cell? (Xa b (g+j*8+2))=some (Xi pa)/\w'.cell? (Xa b (g+j*8+3))=some (Xi bf)/\w'.cell? (Xa b (g+j*8+4))=some (Xi E)/\w'.cell? (Xa b (g+j*8+5))=some (.string F)/\w'.cell? (Xa b (g+j*8+6))=some (.string nm)/\w'.cell? (Xa b (g+j*8+7))=some (.string G)):=Qa λw' o=>by
    obtain ⟨s,t⟩:=X.out w4 w' f ρ' h B.out o;obtain ⟨aZ,b0,e,v⟩:=t (by omega);simp at e;obtain ⟨rfl,rfl⟩:=e;have A:∀ r,r<8->w'.cell? (Xa b (g+(j*8+r)))=some (QY ⟨C,id,pa,bf,E,F,nm,G⟩ r):=λr ab=>by rw [v.cell _ (by omega),QcD _ _ _ ab,P]
    refine ⟨s,?_,?_,?_,?_,?_,?_,?_,?_⟩
    ·have:=A 0 (by decide);simpa [QY,Nat.add_assoc] using this
    ·have:=A 1 (by decide);simpa [QY,Nat.add_assoc] using this
    ·have:=A 2 (by decide);simpa [QY,Nat.add_assoc] using this
    ·have:=A 3 (by decide);simpa [QY,Nat.add_assoc] using this
    ·have:=A 4 (by decide);simpa [QY,Nat.add_assoc] using this
    ·have:=A 5 (by decide);simpa [QY,Nat.add_assoc] using this
    ·have:=A 6 (by decide);simpa [QY,Nat.add_assoc] using this
    have:=A 7 (by decide);simpa [QY,Nat.add_assoc] using this
   obtain ⟨b1,b2,b3,b4,b5,b6,b7,b8,b9⟩:=ad.out wr (by obtain ⟨_,_,_,_,o⟩:=y.out;exact o);by_cases aL:j<f
   ·have ae:Hid (∀ z,Ji (λb=>own b=some (i+1,2)) w4 D.p D.R D.last d j z->Xl 37 #[Xp D.p,(.agg #[Xi C,Xi id,Xi pa,Xi bf,Xi E,.string F,.string nm,.string G])] z λe w'=>e=.returned (.bool true)/\Ji (λb=>own b=some (i+1,2)) w4 D.p D.R D.last d (j+1) w'):=Qa λz af=>by have:=Y.out w4 z j f ρ' h B.out (by omega) aF af;rw [B.out.run j aL,P] at this;exact this.mono λe w' ⟨s,t⟩=>⟨s,t.1 rfl⟩
    clear Y X P;go_wp2_with fail
    go_region_held3 (λw'=>w'.cell? (Xa D.pb 1)=some (Xp D.p)/\w'.cell? (Xa b (g+j*8))=some (Xi C)/\w'.cell? (Xa b (g+j*8+1))=some (Xi id)/\w'.cell? (Xa b (g+j*8+2))=some (Xi pa)/\w'.cell? (Xa b (g+j*8+3))=some (Xi bf)/\w'.cell? (Xa b (g+j*8+4))=some (Xi E)/\w'.cell? (Xa b (g+j*8+5))=some (.string F)/\w'.cell? (Xa b (g+j*8+6))=some (.string nm)/\w'.cell? (Xa b (g+j*8+7))=some (.string G))
     (first
      | go_keep
      | exact a5)
     (first|(go_at_call 37;refine (Qb ae _ (Ji.grow y.out (X4.drew))).mono ?_;rintro e a3 ⟨rfl,H⟩;have a5:=ad.out a3 (by obtain ⟨_,_,_,_,o⟩:=H;exact o)))
    have a6:=Qa H;clear H;go_wp2;go_roundw;·exact ⟨j+1,by omega,by go_num,a6⟩
    simp [intOf];omega
   have aG:j=f:=by omega
   subst aG;obtain ⟨ak,rfl,rfl⟩:canP (QC D.R D.last d j).1 (QC D.R D.last d j).2 (d j)=false/\x=4/\L=j:=by
    rcases a2.out with ⟨e,_⟩|⟨_,s,t,a1⟩
    ·omega
    exact ⟨s,t,a1⟩
   have ae:Hid (∀ z,Ji (λb=>own b=some (i+1,2)) w4 D.p D.R D.last d j z->Xl 37 #[Xp D.p,(.agg #[Xi C,Xi id,Xi pa,Xi bf,Xi E,.string F,.string nm,.string G])] z λe w'=>e=.returned (.bool false)/\Ji (λb=>own b=some (i+1,2)) w4 D.p D.R D.last d j w'):=Qa λz af=>by have:=Y.out w4 z j j ρ' h B.out (by omega) aF af;rw [ak,P] at this;exact this.mono λe w' ⟨s,t⟩=>⟨s,t.2 rfl⟩
   clear Y X P ak a2;go_wp2_with fail
   go_region_held3 (λw'=>w'.cell? (Xa D.pb 1)=some (Xp D.p)/\w'.cell? (Xa b (g+j*8))=some (Xi C)/\w'.cell? (Xa b (g+j*8+1))=some (Xi id)/\w'.cell? (Xa b (g+j*8+2))=some (Xi pa)/\w'.cell? (Xa b (g+j*8+3))=some (Xi bf)/\w'.cell? (Xa b (g+j*8+4))=some (Xi E)/\w'.cell? (Xa b (g+j*8+5))=some (.string F)/\w'.cell? (Xa b (g+j*8+6))=some (.string nm)/\w'.cell? (Xa b (g+j*8+7))=some (.string G))
    (first
     | go_keep
     | exact a5)
    (first|(go_at_call 37;refine (Qb ae _ (Ji.grow y.out (X4.drew))).mono ?_;rintro e a3 ⟨rfl,H⟩;have a5:=ad.out a3 (by obtain ⟨_,_,_,_,o⟩:=H;exact o)))
   have a6:=Qa H;clear H;go_wp2_with (go_at_call 14;refine (QfK _ _).mono ?_;rintro e a3 ⟨rfl,rfl⟩);go_ret;refine ⟨?_,ah.out w4 _ j ρ' h (by omega) B.out a6.out⟩;simp
  have aP:¬ (j:Int)<(n:Int):=by omega
  have aG:f=n:=by omega
  obtain ⟨rfl,rfl⟩:x=0/\L=0:=by
   rcases a2.out with ⟨_,t,a1⟩|⟨e,_⟩
   ·exact ⟨t,a1⟩
   omega
  have aR:j=f:=by omega
  subst aR;clear a2;go_wp2;go_ret;exact ⟨rfl,ah.out w4 _ j ρ' h (by omega) B.out y.out⟩
theorem Qi6 {own:Zb} {k:Int} (c:QH W0 own w wb Ps m k) (a:Xb w w') (b:i<Ps.length):Z7 own i w' Ps[i] := (c.below (Nat.le_refl m) (Int.le_refl k) a).pair i b
theorem QiD {own:Zb} (c:Z7 own i w D):∀ n,n ∈ D.R->n.ats.length<=5:=λn a=>by obtain ⟨d,f,b⟩:=c.dom.node n a;exact b.few
theorem Qta g own w b a m k (s:QH g own w b a m k) (W:m<=400000000) (i:Nat) (L:i<a.length) : Xl 17 #[Xp b,Xp (a[i].pb),Xi 2] w λe w'=>e=.returned (.bool true)/\∃ c,QH g c w' b a (m+1) k:=by
 have d:=s.pair i L;have A:Hid (∀ w',Xb w w'->Z7 own i w' a[i]):=Qa λw' f=>Qi6 s f L;have M:Hid (∀ w' l N,Xb w w'->Zz w.heap.size w' l N->N.length<=1000000->(∀ n,n ∈ N->n.ats.length<=5)->Xl 28 #[.pointer (some (Xa b 1)),l] w' λe w2=>e=.returned (.tuple #[])/\∃ c,QH g c w2 b a (m+1) k):=Qa λw' l N f X Y a0=>QwM g own w w' b a m k s W f X Y a0;clear s;generalize a[i]=D at *;obtain ⟨r,B,E,F⟩:=Qjy d.ok;have a3:=Qj d.pblk 0 (Xp D.db) rfl;have O:=Qa (Qvd d B E);have P:Hid (∀ w1,Xb w w1->Xl 27 #[Xp D.p] w1 λe w'=>∃ q N,e=.returned q/\Zz w1.heap.size w' q N/\Jn D.R (Qo D.R D.R.length r 0) N/\Xb w1 w'):=Qa λw1 f=>QvD (A.out w1 f) B F;have G:Hid (∀ w1,Xb w w1->Xc w1 D.pb 1 (Xp D.p)):=Qa λw1 f=>Qj (A.out w1 f).pblk 1 _ rfl;have h:Hid ((Qo D.R D.R.length r 0).length<=1000000/\∀ n,n ∈ D.R->n.ats.length<=5):=Qa ⟨by have:=QdV d.ok B 0;have:=d.dom.few;omega,QiD d⟩;clear d E F A;generalize Qo D.R D.R.length r 0=a4 at *;generalize D.pb=a5 at *;generalize D.p=a6 at *;generalize D.db=a7 at *;generalize D.R=R at *;go_enter Tryz.func17,Tryz.ntmps17;go_wp2_with fail;refine (Qb O).mono ?_;rintro e w1 ⟨a8,rfl,S,t,H,u⟩;obtain ⟨a1,a2,rfl⟩:=Qy t.row;have a9:=G.out w1 u;have j:=Qa u;have v:=Qa t;have o:=Qa H;clear u t H O;go_wp2_with fail;refine (Qb P w1 j.out).mono ?_;rintro e w2 ⟨aa,ab,rfl,x,I,y⟩;obtain ⟨ac,ad,rfl⟩:=Qy x.row;have z:=Qa y;have T:=Qa (Qsg (v.out.below y) x o.out I h.out.1 h.out.2);clear y x I P;go_wp2_with fail;refine (Qb T).mono ?_;rintro e w3 ⟨rfl,J⟩;have K:=Qa J;clear J T;have V:Hid (Xl 28 #[.pointer (some (Xa b 1)),.slice a1 S.length a2] w3 λe w2=>e=.returned (.tuple #[])/\∃ c,QH g c w2 b a (m+1) k):=by have C:Xb w1 w3:=z.out.trans (K.out.mono z.out.size);exact Qa (M.out w3 _ S (j.out.trans (C.mono j.out.size)) (v.out.below C) (by rw [o.out.1];exact h.out.1) (Qh5 o.out h.out.2))
 clear M G j z K o v h;go_wp2_with fail;refine (Qb V).mono ?_;rintro e w4 ⟨rfl,c,U⟩;go_wp2;go_ret;exact ⟨rfl,c,U⟩
theorem Qrr g own w b a m k (x:QH g own w b a m k) (a9:m<=400000000) (i:Nat) (M:i<a.length) : Xl 17 #[Xp b,Xp (a[i].pb),Xi 3] w λe w'=>e=.returned (.bool true)/\∃ c,QH g c w' b a (m+1) k:=by
 have f:=x.pair i M;have E:Hid (∀ w',Xb w w'->Z7 own i w' a[i]):=Qa λw' d=>Qi6 x d M;have N:Hid (∀ w' l n O,Xb w w'->w'.ownsRow w.heap.size 3 1 l n O->n<=1000000->Xl 31 #[.pointer (some (Xa b 1)),l] w' λe w2=>e=.returned (.tuple #[])/\∃ c,QH g c w2 b a (m+1) k):=Qa λw' l n O d aa ab=>Qwo g own w w' b a m k x a9 d aa ab;clear x;generalize a[i]=D at *;obtain ⟨r,F,J,K⟩:=Qjy f.ok;have aq:=Qj f.pblk 0 (Xp D.db) rfl;have P:=Qa (QvZ f F J);have S:Hid (∀ w1,Xb w w1->Xl 30 #[Xp D.p] w1 λe w'=>∃ v,e=.returned v/\w'.ownsRow w1.heap.size 3 1 v (Qm D.R D.R.length r).length (Qs (Qm D.R D.R.length r))/\Xb w1 w'):=Qa λw1 d=>Qlm (E.out w1 d) F K;have L:Hid (∀ w1,Xb w w1->Xc w1 D.pb 1 (Xp D.p)):=Qa λw1 d=>Qj (E.out w1 d).pblk 1 _ rfl;have ac:(Qm D.R D.R.length r).length<=1000000:=by have G:=QdV f.ok F 0;have ar:=f.dom.few;have ad:=congrArg List.length (Qc2 D.R D.R.length r 0);rw [length_map] at ad;omega
 clear f J K E;generalize Qm D.R D.R.length r=h at *;generalize D.pb=au at *;generalize D.p=av at *;generalize D.db=aw at *;generalize T:h.length=n at *;have ae:=Qa T;clear T;go_enter Tryz.func17,Tryz.ntmps17;go_wp2_with fail;refine (Qb P).mono ?_;rintro e w1 ⟨ax,rfl,y,z⟩;obtain ⟨U,af,rfl⟩:=Qy y;have ay:=L.out w1 z;have s:=Qa z;have A:=Qa y;clear z y P;go_wp2_with fail;refine (Qb S w1 s.out).mono ?_;rintro e w2 ⟨az,rfl,t,B⟩;obtain ⟨ag,aA,rfl⟩:=Qy t;have V:∀ j:Nat,j<n->∃ o q H,U=some (Xa o 0)/\ag=some (Xa q 0)/\o<w2.heap.size/\q<w2.heap.size/\w2.cell? (Xa o j)=some (Xi H)/\w2.cell? (Xa q j)=some (Xi H):=λj W=>by
  have G:=QX A.out B;have a1:j<h.length:=by rw [ae.out];exact W
  have X:(Qs h)[j]?=some (Xi h[j]):=by unfold Qs;rw [getElem?_map,getElem?_eq_getElem a1];rfl
  rcases G.2 with ⟨e,_⟩|⟨ah,ak,al,e,_,a2,_⟩
  ·simp at e;omega
  rcases t.2 with ⟨e',_⟩|⟨ai,ao,ap,e',_,a3,_⟩
  ·simp at e';omega
  simp at e e';obtain ⟨rfl,rfl⟩:=e;obtain ⟨rfl,rfl⟩:=e';exact ⟨ah,ai,h[j],rfl,rfl,(Xd0.1 a2).1,(Xd0.1 a3).1,(G.cellAt j (by omega)).trans X,(t.cellAt j (by omega)).trans X⟩
 have Y:=Qa V;have C:=Qa B;clear B t S V;go_wp2;go_loopw [11,12] (λaj i wr=>∃ j:Nat,j<=n/\i=Xi j/\aj=.bool true/\Hid (Xb w2 wr)) (λ_ i _=>n-(intOf i).toNat);·exact ⟨0,X3,rfl,rfl,Qa X4⟩
 case round =>
  obtain ⟨j,W,rfl,rfl,u⟩:=hrel;by_cases a4:j<n
  ·obtain ⟨o,q,H,rfl,rfl,a5,a6,q1,q2⟩:=Y.out j a4;have aB:=(Xh u.out o j a5).trans q1;have aC:=(Xh u.out q j a6).trans q2;have a7:(j:Int)<(n:Int):=by omega
   clear q1 q2;go_wp2;go_big_quiet (fail);go_wp2;go_roundw;·exact ⟨j+1,by omega,by go_num,rfl,Qa (Qv u.out _)⟩
   simp [intOf];omega
  have a7:¬ (j:Int)<(n:Int):=by omega
  have a8:Hid (Xl 31 #[.pointer (some (Xa b 1)),.slice U n af] wr λe w2=>e=.returned (.tuple #[])/\∃ c,QH g c w2 b a (m+1) k):=by have I:Xb w1 wr:=C.out.trans (u.out.mono C.out.size);exact Qa (N.out wr _ n _ (s.out.trans (I.mono s.out.size)) (QX A.out I) ac)
  clear N L s C A Y;go_wp2_with (first|(go_at_call 31;refine (Qb a8).mono ?_;rintro e w4 ⟨rfl,c,a0⟩));go_ret;exact ⟨rfl,c,a0⟩
theorem QsH y own w l a m k (g:QH y own w l a m k) (i:Nat) (z:i<a.length) : Xl 17 #[Xp l,Xp (a[i].pb),Xi 4] w λe w'=>e=.returned (.bool true)/\∃ E,QH y E w' l a (m+1) k:=by
 have b:=g.pair i z;have o:Hid (∀ w',Xb w w'->Z7 own i w' a[i]):=Qa λw' f=>Qi6 g f z;have I:=Qa g;clear g;generalize a[i]=D at *;obtain ⟨r,q,s,t⟩:=Qjy b.ok;have P:=Qj b.pblk 0 (Xp D.db) rfl;have A:=Qa (QoJ b q s);have J:Hid (∀ w1,Xb w w1->Xl 30 #[Xp D.p] w1 λe w'=>∃ v,e=.returned v/\w'.ownsRow w1.heap.size 3 1 v (Qm D.R D.R.length r).length (Qs (Qm D.R D.R.length r))/\Xb w1 w'):=Qa λw1 f=>Qlm (o.out w1 f) q t;have u:Hid (∀ w1,Xb w w1->∃ ao d,w1.cell? (Xa D.pb 1)=some (Xp D.p)/\w1.cell? (Xa D.p 0)=some (.slice ao D.R.length d)/\D.pb<w1.heap.size/\D.p<w1.heap.size):=Qa λw1 f=>by have c:=o.out w1 f;obtain ⟨ao,d,e⟩:=c.ref.nil;have B:=c.ref.c0;rw [e,Qej c.bare] at B;exact ⟨ao,d,Qj c.pblk 1 _ rfl,B,Q9 c.pblk,c.ref.lt⟩
 have S:(Qm D.R D.R.length r).length<=1000000/\D.R.length<=1000000:=by have T:=QdV b.ok q 0;have U:=b.dom.few;have K:=congrArg List.length (Qc2 D.R D.R.length r 0);rw [length_map] at K;omega
 clear b s t o;generalize Qm D.R D.R.length r=L at *;generalize D.pb=M at *;generalize D.p=C at *;generalize D.db=V at *;generalize L.length=n at *;generalize D.R.length=N at *;go_enter Tryz.func17,Tryz.ntmps17;go_wp2_with fail;refine (Qb A).mono ?_;rintro e w1 ⟨W,rfl,rfl,h⟩;obtain ⟨ao,d,X,Y,a0,a1⟩:=u.out w1 h;have j:=Qa h;clear h A u;go_wp2_with fail
 go_region_held3 (λw'=>w'.cell? (Xa M 1)=some (Xp C)/\w'.cell? (Xa C 0)=some (.slice ao N d))
   (first
     | go_keep
     | (go_split_ands
        refine ⟨?_,?_⟩
        all_goals (rw [x.cell (by simp;omega)];assumption)))
   (first|(go_at_call 30;refine (Qb J _ j.out.drew).mono ?_;rintro e O ⟨a2,rfl,F,x⟩;obtain ⟨a3,a4,rfl⟩:=Qy F))
 go_wp2;go_ret;have G:Xb w1 O:=(Below.refl w1.heap.size w1).drew.trans x;have H:IntKind.i64.wrap ((N:Int)-(n:Int))=(N:Int)-(n:Int):=Qe0 (by omega) (by omega);refine ⟨?_,own,I.out.below (Nat.le_succ m) (Int.le_refl k) (j.out.trans (G.mono j.out.size))⟩;rw [H];simp
structure Qb4 (m m':Qd):Prop where
 d:m.d=m'.d
 t:m.t=m'.t
 k:m.k=m'.k
 an:m.an=m'.an
 nm:m.nm=m'.nm
 vl:m.vl=m'.vl
 x:m.x=m'.x
theorem Qit (m:Qd) (g:Nat):Qb4 (Qbu m g) m:=⟨rfl,rfl,rfl,rfl,rfl,rfl,rfl⟩
theorem Qb4.el {m b:Qd} (a:Qb4 m b):Ze m=Ze b:=by unfold Ze;rw [a.t,a.x,a.k,a.an,a.nm,a.vl]
theorem Qb4.tx {m b:Qd} (a:Qb4 m b):Zx m=Zx b:=by unfold Zx;rw [a.t,a.x,a.k,a.an]
theorem QuA (c:∀ j,j<=i->Qb4 (L j) (L' j)):∀ m,m<=i->Z4 L i m=Z4 L' i m:=by
 intro m;induction m with
 | zero=>intro _;rfl
 | succ m ih =>intro f;have a:=c m (by omega);have b:=c i X0;rw [Z4,Z4,ih (by omega),a.d,a.t,a.k,b.d,b.k]
theorem Qi3 (a:∀ j,j<=i->Qb4 (L j) (L' j)):QF L i=QF L' i:=by unfold QF;rw [(a 0 X3).d,(a 0 X3).el,(a i X0).d,(a i X0).el,(a i X0).tx,(a (i-1) (by omega)).d,QuA a i X0]
theorem Qmh {f g:Nat->Bool} (d:∀ i,i<n->f i=g i):QbZ f n=QbZ g n:=by
 unfold QbZ;have e:∀ l:List Nat,(∀ i,i ∈ l->i<n)->l.find? (λi=>!f i)=l.find? (λi=>!g i):=by
  intro l;induction l with
  | nil=>intro _;rfl
  | cons a l ih =>intro c;rw [find?_cons,find?_cons,d a (c a (mem_cons_self ..)),ih (λi b=>c i (mem_cons_of_mem _ b))]
 rw [e (List.range n) (λi b=>mem_range.1 b)]
theorem Qwk (L:Nat->Qd) (G:Nat->Nat) (n:Nat):Zk (QF (ZA L G n)) n=Zk (QF L) n:=by unfold Zk;rw [Qmh (f:=QF (ZA L G n)) (g:=QF L) λi a=>Qi3 λj b=>by unfold ZA;rw [if_pos (by omega)];exact Qit _ _]
theorem Qii {a:World} (v:Jp a ao n L) (l:In L n) (k:w.rowIs a.heap.size 33 ((n+3)*5) (Jv (ZA L G n))) (o:Js w L G a.heap.size n):Jp w (some (Xa a.heap.size 0)) n (ZA L G n):=by
 intro p;obtain ⟨b,A,_,q⟩:=v p;refine ⟨a.heap.size,0,rfl,k.lt,λi f=>?_⟩;have c:∀ r,r<5->w.cell? (Xa a.heap.size (0+i*5+r))=some (Qcw (ZA L G n i) r):=λr m=>by rw [Nat.zero_add,k.cell (by omega),Qel _ _ _ m]
 have el:ZA L G n i=Qbu (L i) (G i):=by unfold ZA;rw [if_pos f]
 have g:=(q.node i f).ok;refine ⟨c 0 (by omega),c 1 (by omega),c 2 (by omega),c 3 (by omega),c 4 (by omega),?_⟩;rw [el];refine ⟨g.an,g.t,g.x,?_⟩;intro j d;have d:j<(L i).an:=d;have h:(L i).ao≠none:=λe=>by have:=l.nil i f e;omega
 obtain ⟨y,z,_,_,_,_,s,u⟩:=g.at' j d;have row:=o.row i f h;refine ⟨G i,0,by rw [Qid h],row.lt,?_,?_,s,u⟩
 ·rw [Nat.zero_add,row.cell (by omega)];unfold QaC;rw [Qiq,if_pos d];rfl
 rw [Nat.zero_add,row.cell (by omega)];unfold QaC;rw [QiV,if_pos d];rfl
theorem QvP (g n c m k:Nat) (w:World) : Xl 11 #[Xe g m k,.slice none n c] w λe w'=>e=.returned Xv/\w'=w:=by have b:∀ w a l c,(binOp .eql 24 (.slice a l c) Xv).run Tryz.prog w=.ok (.bool a.isNone) w:=λw a l c => Lib.run_eql_slice_nil (P:=Tryz.prog) w 24 33 a l c 0 0 Tryz.underlying24;go_enter Tryz.func11,Tryz.ntmps11;go_wp2;go_ret;exact ⟨rfl,rfl⟩
theorem Qv4 (b:Addr) (g n c:Nat) (w:World) (f:n<=140737488351232) : Xl 11 #[Xe g (n+3) (n+3),.slice (some b) n c] w λe w'=>e=.returned (Xe g n (n+3))/\w'=w:=by have d:∀ w a l c,(binOp .eql 24 (.slice a l c) Xv).run Tryz.prog w=.ok (.bool a.isNone) w:=λw a l c => Lib.run_eql_slice_nil (P:=Tryz.prog) w 24 33 a l c 0 0 Tryz.underlying24;go_enter Tryz.func11,Tryz.ntmps11;go_wp2;go_ret;exact ⟨rfl,rfl⟩
theorem Qiy (ao:Option Addr) (g n c:Nat) (w:World) (a:n<=140737488351232) : Xl 11 #[Xe g (n+3) (n+3),.slice ao n c] w λe w'=>e=.returned (.slice (QaV ao g) (Qbo ao n) (Qby ao n))/\w'=w:=by cases ao with| none=>exact QvP g n c (n+3) (n+3) w| some b=>exact Qv4 b g n c w a
theorem Qjc {a:World} (f:w.rowIs a.heap.size 33 ((n+3)*5) (Jv (ZA L G n))) (b:Js w L G a.heap.size n) (g:Xb a w) (d:Xb w w') : Gs L G a.heap.size n/\Wh w' a w' a.heap.size L G n 0 0:=by have c:=Wh.grow (M:=w) (kr:=0) (ka:=0) ⟨⟨_,f,λ_ _=>rfl⟩,λi _ h j=>b.row i h j,g,Qi.of_below X4⟩ d;exact ⟨⟨b.above,b.rise⟩,c.row,c.rows,c.below,Qi.of_below X4⟩
end Go.Proofs.YtobgcaemnpkbmaaGreat
