import Derived.Test.YtobgcaemnpkbmaaGreatY29
import Derived.ProofKit
import Derived.SizedLaws
import Derived.Deep.SlicePairs
namespace Go.Proofs.YtobgcaemnpkbmaaGreat
set_option maxRecDepth 100000
set_option maxHeartbeats 8000000
open Go.RowKit List Go.ChangeShapes Go.WideShapes Go.ChangeAt Go.Deep
variable {nb:Int->Nat} {Ps:List PD} {R:List RN} {cs xs:List Value} {N b base c db i m mb n p q size wb:Nat} {L L':Nat->Qd} {so:Option Addr} {D:PD} {ρ:Qz} {e:TypeId} {v:Value} {W0 w w' w0:World}
structure Qa7 (w:World) (ao:Option Addr) (n:Nat) (L:Nat->Qd):Prop where
 at':Jp w ao n L
 inn:In L n
 cap:∀ i,i<n->(L i).ao=none->(L i).ac=0
 len:n*72<=140737488351232
 key:∀ i,i<n->Qu (L i).k
theorem Qip {f:Nat->Bool} (a:(Zk f n).1=0):Zk f n=(0,0)/\0<n/\n<=400/\∀ i,i<n->f i=true:=by
 unfold Zk at a ⊢;by_cases b:n<1 \/ 400<n
 ·rw [if_pos b] at a;cases a
 rw [if_neg b] at a ⊢;unfold QbZ at a ⊢;cases c:(List.range n).find? (λi=>!f i) with| some i=>rw [c] at a;cases a| none =>refine ⟨rfl,by omega,by omega,λi d=>?_⟩;have:=find?_eq_none.1 c i (Xa6.2 d);simpa using this
theorem Qlv ao (n:Nat) L (G:Nat->Nat) (b w:World) (i:n*72<=140737488351232) (c:Jp b ao n L) (d:In L n) (f:w.rowIs b.heap.size 33 ((n+3)*5) (Jv (ZA L G n))) (g:Js w L G b.heap.size n) : Xl 42 #[.slice (QaV ao b.heap.size) (Qbo ao n) (Qby ao n)] w λe w'=>e=.returned (.tuple #[Xi (Zk (QF L) n).1,Xi (Zk (QF L) n).2])/\Xb w w':=by
 cases ao with
 | none =>
  have h:n=0:=by apply Classical.byContradiction;intro a;obtain ⟨_,_,e,_⟩:=c (by omega);cases e
  subst h;have a:=QhS none 0 0 L w (by unfold maxLen;omega) (λc=>absurd c (Xc8 _));exact a
 | some j =>have a:=QhS (some (Xa b.heap.size 0)) n (n+3) (ZA L G n) w (by unfold maxLen;omega) (Qii c d f g);rw [Qwk] at a;exact a
theorem Qu0 (t:Nat) w ao (n c:Nat) L (d:Qa7 w ao n L) (g:((Zk (QF L) n).1 !=0)=true) : Xl 6 #[Xp t,.slice ao n c] w λe w'=>e=.returned (.bool true)/\Xb w w':=by
 have f:=Qa d.at';have h:=Qa d.inn;have i:=d.len;clear d;have u:Hid (∀ w3 G,w3.rowIs w.heap.size 33 ((n+3)*5) (Jv (ZA L G n))->Js w3 L G w.heap.size n->Xl 10 #[.slice (QaV ao w.heap.size) (Qbo ao n) (Qby ao n)] w3 λe w'=>e=.returned (.tuple #[.pointer none,Xi (Zk (QF L) n).1,Xi (Zk (QF L) n).2])/\Xb w3 w'):=Qa λw3 G v x => QwD _ _ _ _ _ _ g (Qa (QpS _ _ _ _ _ _ g (Qa (Qlv ao n L G w w3 i f.out h.out v x))));have y:Hid (∀ a,Xb w a->Xl 13 #[.slice ao n c] a λe w'=>e=.returned (.tuple #[Xi (Zk (QF L) n).1,Xi (Zk (QF L) n).2])/\Xb a w'):=Qa λa b=>Qif ao n c L a (by unfold maxLen;omega) (f.out.below b);generalize (Zk (QF L) n).1=z at *;generalize (Zk (QF L) n).2=D at *;have C:(z==0)=false:=by simpa [bne] using g
 go_enter Tryz.func6,Tryz.ntmps6;go_wp2_with fail;refine (Qhs ao n c L w i (Qb f) (Qb h)).mono ?_;rintro e w3 ⟨rfl,q,G,j,k⟩;have l:=Qa j;have m:=Qa k;clear j k;go_wp2_with fail;refine (Qiy ao w.heap.size n c w3 (by omega)).mono ?_;rintro e w4 ⟨rfl,rfl⟩;go_wp2_with fail;refine (Qb u _ G (Qb l) (Qb m)).mono ?_;rintro e E ⟨rfl,r⟩;obtain ⟨o,p⟩:=Qjc (Qb l) (Qb m) q r;have A:=Qa o;have B:=Qa p;clear o p;go_wp2_with fail;refine (QgZ w ao n c L G _ i (Qb f) (Qb h) (Qb A) (Qb B)).mono ?_;rintro e a ⟨rfl,b,_⟩;go_wp2_with fail;refine (Qb y _ b).mono ?_;rintro e F ⟨rfl,s⟩;go_wp2_with (go_at_call 14;refine (QfK _ _).mono ?_;rintro e w' ⟨rfl,rfl⟩);go_ret;exact ⟨rfl,b.trans (s.mono b.size)⟩
theorem Qs3:(Tryz.prog.info? 59).map (λi=>(i.zero,i.size,i.bytes))=some (some (.pointer none),1,8):=by kernel_rfl
theorem Qsv (a:∀ j,j<=i->(L j).d=(L' j).d):∀ m,m<=i->Q1 L i m=Q1 L' i m:=by
 intro m;induction m with
 | zero=>intro _;rfl
 | succ m ih=>intro b;rw [Q1,Q1,ih (by omega),a m (by omega),a i X0]
theorem QvG (L:Nat->Qd) (G:Nat->Nat) (n:Nat):Zd (ZA L G n) n=Zd L n:=by
 unfold Zd;refine map_congr_left λi a=>?_;have a:i<n:=Xa6.1 a;have b:∀ j,j<n->ZA L G n j=Qbu (L j) (G j):=λj c=>by unfold ZA;rw [if_pos c]
 have d:Qam (ZA L G n) i=Qam L i:=by unfold Qam;rw [Qsv (L':=L) (λj c=>by rw [b j (by omega)];rfl) i X0]
 unfold Jx;rw [d,b i a];rfl
theorem QH.more {own:Zb} {wF:World} {k:Int} (c:QH W0 own w wb Ps m k) {S2:Nat->Prop} {vp vp':Value} (g:∀ b,vp.ownBlock=some b->own b=some (0,1)) (l:Qi (λb=>b=wb \/ some b=vp.ownBlock) w wF) (X:wF.cell? (Xa wb 0)=some vp') (Y:wF.frozen? (Xa wb 0)=false) (U:∀ n,0<n->wF.cell? (Xa wb n)=w.cell? (Xa wb n)/\wF.frozen? (Xa wb n)=w.frozen? (Xa wb n)) (F:wF.ownsRow 0 59 1 vp' (Ps.length+1) ((Ps.map λD=>Xp D.pb)++[Xp D.pb])) (r:∀ b,vp'.ownBlock=some b->vp.ownBlock=some b \/ (w.heap.size<=b/\b≠D.pb/\b≠D.db/\D.ρ b=none/\¬ S2 b)) (H:wF.heap[D.pb]?=some (.cells #[Xp D.db,Xp D.p] 63 (0,0))) (I:wF.heap[D.db]?=some (.cells #[Xp D.q] 84 (0,0))) (J:w.heap.size<=D.pb) (K:w.heap.size<=D.db) (G:Ql D.ρ D.nb D.mb (some (D.nb 1)) wF D.q D.R D.last) (t:∀ b,(D.ρ b).isSome=true->w.heap.size<=b/\b≠D.pb/\b≠D.db/\¬ S2 b) (V:Qq S2 wF D.p D.R' D.last D.v) (u:∀ b,S2 b->w.heap.size<=b/\b<wF.heap.size/\b≠D.pb/\b≠D.db) (O:QA D.R'=QA D.R) (a0:Qw D.R D.last) (P:Zw D.R) (S:QbH D.R) (T:D.last<=k):∃ W,QH W0 W wF wb (Ps++[D]) (m+1) k:=by
 classical
 have s:∀ b,(own b).isSome=true->(if (own b).isSome=true then own b else if vp'.ownBlock=some b then some (0,1) else if b=D.pb \/ b=D.db then some (Ps.length+1,0) else if (D.ρ b).isSome=true then some (Ps.length+1,1) else if S2 b then some (Ps.length+1,2) else none)=own b:=λb e=>if_pos e;have h:∀ b,w.heap.size<=b->¬ (own b).isSome=true:=λb a2 e=>by have:=(c.low b e).2;omega
 have o:∀ b,w.heap.size<=b->(vp'.ownBlock=some b->(b≠D.pb/\b≠D.db/\D.ρ b=none/\¬ S2 b)):=λb a2 e=>by
  rcases r b e with a|a
  ·have:=(c.low b (by rw [g b a];rfl)).2;omega
  exact a.2
 have C:∀ b,(own b).isSome=true->own b≠some (0,0)->own b≠some (0,1)->wF.heap[b]?=w.heap[b]?:=λb e L f=>l.block b (c.low b e).2 λa=>by
  rcases a with a|a
  ·rw [a] at L;exact L c.wo
  exact f (g b a.symm)
 refine ⟨λb=>if (own b).isSome=true then own b else if vp'.ownBlock=some b then some (0,1) else if b=D.pb \/ b=D.db then some (Ps.length+1,0) else if (D.ρ b).isSome=true then some (Ps.length+1,1) else if S2 b then some (Ps.length+1,2) else none,?_⟩;refine ⟨(s wb (by rw [c.wo];rfl)).trans c.wo,⟨vp',X,Y,?_,λb e=>?_⟩,λi M=>?_,?_,λb e=>?_,Qhl c.base l (λb e=>?_) X0,?_,λE a3=>?_⟩
 ·rw [length_append,map_append];exact F
 ·show (if (own b).isSome=true then own b else _)=_;rcases r b e with a|a
  ·rw [if_pos (by rw [g b a];rfl)];exact g b a
  rw [if_neg (h b a.1),if_pos e]
 ·by_cases N:i<Ps.length
  ·rw [getElem_append_left N];exact (c.pair i N).kept l.size λb j e=>⟨C b (by rw [e];rfl) (by rw [e];simp) (by rw [e];simp),s b (by rw [e];rfl)⟩
  have a1:i=Ps.length:=by rw [length_append] at M;simp at M;omega
  subst a1;rw [getElem_append_right X0];simp only [Nat.sub_self,getElem_cons_zero];refine ⟨H,I,?_,?_,G,λb e=>?_,V.heap X0 λb _ e=>⟨rfl,?_⟩,O,a0,P,S⟩
  ·show (if (own D.pb).isSome=true then own D.pb else _)=_;rw [if_neg (h _ J),if_neg (λe=>(o _ J e).1 rfl),if_pos (.inl rfl)]
  ·show (if (own D.db).isSome=true then own D.db else _)=_;rw [if_neg (h _ K),if_neg (λe=>(o _ K e).2.1 rfl),if_pos (.inr rfl)]
  ·show (if (own b).isSome=true then own b else _)=_;obtain ⟨f,x,y,_⟩:=t b e;rw [if_neg (h _ f),if_neg (λa=>by rw [(o _ f a).2.2.1] at e;cases e),if_neg (λa=>a.elim x y),if_pos e]
  show (if (own b).isSome=true then own b else _)=_;obtain ⟨f,_,x,y⟩:=u b e;rw [if_neg (h _ f),if_neg (λa=>(o _ f a).2.2.2 e),if_neg (λa=>a.elim x y),if_neg (λa=>(t b a).2.2.2 e),if_pos e]
 ·exact c.book.kept l.size (by omega) U λb j e=>⟨C b (by rw [e];rfl) (by rw [e];simp<;>omega) (by rw [e];simp<;>omega),s b (by rw [e];rfl)⟩
 ·by_cases z:(own b).isSome=true
  ·exact ⟨(c.low b z).1,Xb4 (c.low b z).2 l.size⟩
  replace e:(if (own b).isSome=true then own b else if vp'.ownBlock=some b then some (0,1) else if b=D.pb \/ b=D.db then some (Ps.length+1,0) else if (D.ρ b).isSome=true then some (Ps.length+1,1) else if S2 b then some (Ps.length+1,2) else none).isSome=true:=e;rw [if_neg z] at e;have a4:=c.base.size;by_cases a:vp'.ownBlock=some b
  ·refine ⟨?_,(F.lt b a).2⟩;rcases r b a with d|d
   ·exact (c.low b (by rw [g b d];rfl)).1
   omega
  rw [if_neg a] at e;by_cases d:b=D.pb \/ b=D.db
  ·rcases d with d|d
   ·rw [d];exact ⟨by omega,Q9 H⟩
   rw [d];exact ⟨by omega,Q9 I⟩
  rw [if_neg d] at e;by_cases A:(D.ρ b).isSome=true
  ·exact ⟨by have:=(t b A).1;omega,G.low b A⟩
  rw [if_neg A] at e;by_cases B:S2 b
  ·exact ⟨by have:=(u b B).1;omega,(u b B).2.1⟩
  rw [if_neg B] at e;cases e
 ·rcases e with e|e
  ·rw [e];exact (c.low wb (by rw [c.wo];rfl)).1
  exact (c.low b (by rw [g b e.symm];rfl)).1
 ·rw [length_append];have:=c.few;simp;omega
 rcases Xa4.1 a3 with e|e
 ·exact c.last E e
 rw [mem_singleton.1 e];exact T
theorem Qo3 (b:R.length=n) (l:∀ i,(a:i<R.length)->QhH L i R[i]):QA R=QA (Zd L n):=by
 apply Qp6;apply ext_getElem
 ·simp [b,Qbg]
 intro i c m;rw [getElem_map,getElem_map,Qbx];have a:i<R.length:=by simpa using c
 obtain ⟨d,f,g,h,j,k⟩:=l i a;have e:R[i].toPN=⟨R[i].id,R[i].par,R[i].tag,R[i].key,R[i].text,R[i].ats⟩:=rfl;rw [e,d,f,g,h,j,k];rfl
structure QfL (w0:World) (L:Nat->Qd) (n:Nat) (ρ:Qz) (nb:Int->Nat) (mb q db:Nat) (w:World):Prop where
 ldb:w0.heap.size<=db
 blk:w.heap[db]?=some (.cells #[Xp q] 84 (0,0))
 role:∀ b,(ρ b).isSome=true->w0.heap.size<=b/\b≠db
 dom:Ql ρ nb mb (some (nb 1)) w q (Zd L n) n
 below:Xb w0 w
theorem QfL.grow (a:QfL w0 L n ρ nb mb q db w) (b:Xb w w'):QfL w0 L n ρ nb mb q db w' := ⟨a.ldb,(b.block db (Q9 a.blk)).trans a.blk,a.role,a.dom.below b,a.below.trans (b.mono a.below.size)⟩
theorem Qto (b c n:Nat) L (G:Nat->Nat) w w3 (N:n*72<=140737488351232) (B:Jp w (some (Xa b c)) n L) (u:In L n) (O:(Zk (QF L) n).1=0) (E:Xb w w3) (o:w3.rowIs w.heap.size 33 ((n+3)*5) (Jv (ZA L G n))) (p:Js w3 L G w.heap.size n) : Xl 10 #[.slice (QaV (some (Xa b c)) w.heap.size) (Qbo (some (Xa b c)) n) (Qby (some (Xa b c)) n)] w3 λe r=>∃ a nb d q x,e=.returned (.tuple #[Xp x,Xi 0,Xi 0])/\Xb w3 r/\∀ k,Qi (Qeu L G w.heap.size n) r k->Xb w k->QfL w L n a nb d q x k:=by
 obtain ⟨F,m,H,D⟩:=Qip O;have C:∀ i,i<n->QF (ZA L G n) i=true:=λi s=>by rw [Qi3 (L':=L) λj Y=>by unfold ZA;rw [if_pos (by omega)];exact Qit _ _];exact D i s
 have t:=Qlv (some (Xa b c)) n L G w w3 N B u o p;have P:QaV (some (Xa b c)) w.heap.size=some (Xa w.heap.size 0):=by unfold QaV;rw [if_neg (by simp)]
 have R:Qbo (some (Xa b c)) n=n:=by unfold Qbo;rw [if_neg (by simp)]
 have S:Qby (some (Xa b c)) n=n+3:=by unfold Qby;rw [if_neg (by simp)]
 rw [P,R,S] at t ⊢;rw [F] at t;obtain ⟨g,T,y,U⟩:=Qii B u o p m;obtain ⟨rfl,rfl⟩:w.heap.size=g/\0=T:=by simp at y;exact y
 have V:=QsA w.heap.size 0 n (n+3) (ZA L G n) w3 m H U (QeY.of m C) (Qa t);refine (QsW (some (Xa w.heap.size 0)) n (n+3) w3 (λq w'=>∃ a nb d,w3.heap.size<=q/\(∀ b,(a b).isSome=true->w3.heap.size<=b)/\Ql a nb d (some (nb 1)) w' q (Zd (ZA L G n) n) n/\Xb w3 w') (Qa (V.mono ?_))).mono ?_
 ·rintro e w' ⟨a,nb,d,q,rfl,z,l,f,h⟩;exact ⟨q,rfl,a,nb,d,z,l,f,h⟩
 rintro e r ⟨q,w4,⟨a,nb,d,z,l,f,h⟩,rfl,rfl⟩;have I:Xb w3 (w4.alloc (.cells #[Xp q] 84)):=h.alloc h.size _;refine ⟨a,nb,d,q,w4.heap.size,rfl,I,λk A J=>?_⟩;have v:∀ b,w3.heap.size<=b->¬ Qeu L G w.heap.size n b:=λb a0 e=>by
  rcases e with e|⟨i,s,K,e⟩
  ·have:=o.lt;omega
  have:=(p.row i s K).lt;omega
 have M:=h.size;have W:=E.size;have X:(w4.alloc (.cells #[Xp q] 84)).heap.size=w4.heap.size+1:=by simp
 refine ⟨by omega,(A.block _ (by omega) (v _ M)).trans (by show (w4.heap.push _)[w4.heap.size]?=_;simp),λb e=>⟨by have:=l b e;omega,by have:=f.low b e;omega⟩,?_,J⟩;rw [QvG] at f;exact (f.below Xd).touch A λb e=>v b (l b e)
theorem QvM (b f n c:Nat) L w (g:Qa7 w (some (Xa b f)) n L) (l:(Zk (QF L) n).1=0) : Xl 15 #[.slice (some (Xa b f)) n c] w λe w'=>e=.returned (Xp w.heap.size)/\Xb w w'/\∃ R' m,Qq (λb=>w.heap.size<=b) w' w.heap.size R' n m/\QA R'=QA (Zd L n):=by
 obtain ⟨u,h,k,j⟩:=Qip l;obtain ⟨x,y,e,o⟩:=g.at' h;simp at e;obtain ⟨rfl,rfl⟩:=e;have d:=QeY.of h j;refine (QoG b f n c L w k o d.deep (λi a p=>⟨d.par i a p,?_⟩) d.an (λi a e=>⟨g.inn.nil i a e,g.cap i a e⟩)).mono ?_
 ·have:=(QfJ L i i).2;omega
 rintro e w' ⟨rfl,q,R,v,r,s,t⟩;exact ⟨rfl,q,R,v,r,Qo3 s t⟩
theorem QmU b4 own w d g m k (K:QH b4 own w d g m k) (bz:m<=4294967296) (bK:400<=k) ao (n c:Nat) L (l:Qa7 w ao n L) (a5:(Zk (QF L) n).1=0) : Xl 6 #[Xp d,.slice ao n c] w λe w'=>e=.returned (.bool true)/\∃ ae D,QH b4 ae w' d (g++[D]) (m+1) k:=by
 obtain ⟨aM,aN,bG,U⟩:=Qip a5;obtain ⟨b,r,rfl,bq⟩:=l.at' aN;obtain ⟨vp,b5,b6,aq,b7⟩:=K.top;obtain ⟨E,F,rfl⟩:=Qy aq;obtain ⟨bA,bB,br,bs,bt⟩:=info_parts Qs3;have N:d<w.heap.size:=(K.low d (by rw [K.wo];rfl)).2;have b8:=Qa K;have a6:=Qa l;have y:=l.len;have ag:Hid (Qw (Zd L n) n/\Zw (Zd L n)/\QbH (Zd L n)):=Qa ⟨Qvp aN U,Qr2 U,Qqw U l.key⟩;have bF:g.length<=4294967296:=Xb6 K.few bz;have aG:=Qa aq;have aO:=Qa b7;have b9:Hid (∀ w3 G,Xb w w3->w3.rowIs w.heap.size 33 ((n+3)*5) (Jv (ZA L G n))->Js w3 L G w.heap.size n->Xl 10 #[.slice (QaV (some (Xa b r)) w.heap.size) (Qbo (some (Xa b r)) n) (Qby (some (Xa b r)) n)] w3 λe ar=>∃ T nb au q s,e=.returned (.tuple #[Xp s,Xi 0,Xi 0])/\Xb w3 ar/\∀ t,Qi (Qeu L G w.heap.size n) ar t->Xb w t->QfL w L n T nb au q s t):=Qa λw3 G O bC bD=>Qto b r n L G w w3 y l.at' l.inn a5 O bC bD;have ba:Hid (∀ t,Xb w t->Xl 13 #[.slice (some (Xa b r)) n c] t λe w'=>e=.returned (.tuple #[Xi 0,Xi 0])/\Xb t w'):=Qa λt P=>by have:=Qif (some (Xa b r)) n c L t (by unfold maxLen;omega) (l.at'.below P);rw [aM] at this;exact this
 have bb:Hid (∀ z,Xb w z->Xl 15 #[.slice (some (Xa b r)) n c] z λe w'=>e=.returned (Xp z.heap.size)/\Xb z w'/\∃ R' a7,Qq (λb=>z.heap.size<=b) w' z.heap.size R' n a7/\QA R'=QA (Zd L n)):=Qa λz bu=>QvM b r n c L z ⟨l.at'.below bu,l.inn,l.cap,l.len,l.key⟩ a5;clear l bq K aq b7 aM U a5;go_enter Tryz.func6,Tryz.ntmps6;go_wp2_with fail;refine (Qhs (some (Xa b r)) n c L w y a6.out.at' a6.out.inn).mono ?_;rintro e w3 ⟨rfl,O,G,aP,aQ⟩;have av:=Qa aP;have aw:=Qa aQ;clear aP aQ;go_wp2_with fail;refine (Qiy (some (Xa b r)) w.heap.size n c w3 (by omega)).mono ?_;rintro e w4 ⟨rfl,rfl⟩;go_wp2_with fail;refine (Qb b9 _ G O (Qb av) (Qb aw)).mono ?_;rintro e ar ⟨T,nb,au,q,s,rfl,aR,j⟩;obtain ⟨bc,bd⟩:=Qjc (Qb av) (Qb aw) O aR;have bf:=Qa bc;have bg:=Qa bd;have bh:=Qa j;clear bc bd j;go_wp2_with fail;refine (QgZ w (some (Xa b r)) n c L G _ y a6.out.at' a6.out.inn (Qb bf) (Qb bg)).mono ?_;rintro e t ⟨rfl,P,aS⟩;have aT:=Qa (bh.out t aS P);clear bh bg bf av aw aS aR O b9;go_wp2_with fail;refine (Qb ba _ P).mono ?_;rintro e h ⟨rfl,aU⟩;have aV:=Qa (aT.out.grow aU);have V:=aV.out.below;have ax:=(Xh V d 0 N).trans b5;have ay:Xf h d 0:=(Xj V d 0 N).trans b6;have R:=Qa V;clear P aU aT ba V b5 b6;go_wp2_with (go_at_call 14;refine (QfK _ _).mono ?_;rintro e h ⟨rfl,rfl⟩);have aW:(λw':World=>Xf w' d 0/\Xc w' d 0 (.slice E g.length F)) h.drew:=⟨ay,ax⟩;refine ZU (S:=(λw':World=>w'.frozen? (Xa d 0)=false/\w'.cell? (Xa d 0)=some (.slice E g.length F))) (by kernel_rfl) ?_;iterate 7
  apply Qbz ?_ aW ?_;rotate_left
  ·(intro w' hSw;(try dsimp only at hSw);simp only [Xq];go_simp;try (with_reducible rfl))
  simp only [Xq,Xr]
 refine Qbe 7 ?_;simp only [Xq];go_simp;refine (Qb bb h.drew R.out.drew).mono ?_;rintro e f ⟨rfl,C,R',a7,W,aC⟩;have C:Xb h f:=(Below.refl h.heap.size h).drew.trans C;have W:Qq (λb=>h.heap.size<=b) f h.heap.size R' n a7:=W;have aH:d<h.heap.size:=Xb4 N R.out.size;have az:=(Xh C d 0 aH).trans ax;have aA:=(Xj C d 0 aH).trans ay;refine ⟨.inr ⟨aA,az⟩,?_⟩;have bv:=C.size;have aX:=Qa C;have bl:=Qa W;have bj:=Qa aC;clear C W aC aW bb ax ay;try simp only [Xr]
 refine Qbe 8 ?_;simp only [Xq];go_simp;refine Qbe 9 ?_;simp only [Xq];go_simp;have aI:d<f.heap.size:=by omega
 generalize X:f.alloc (.cells #[Xp s,Xp h.heap.size] 63)=H;have Y:=Xt X;have ah:=X1 X;have aY:H.heap[f.heap.size]?=some (.cells #[Xp s,Xp h.heap.size] 63 (0,0)):=by rw [<- X];show (f.heap.push _)[f.heap.size]?=_;simp
 have ai:=(Xh Y d 0 aI).trans az;have aj:=(Xj Y d 0 aI).trans aA;refine ⟨.inr ⟨aj,ai⟩,?_⟩;have aJ:=Qa Y;have aK:=Qa aY;have bw:=Qa ah;clear X Y aY az aA ah;refine Qbe 10 ?_;simp only [Xq];go_simp;have ah:=bw.out;generalize a0:H.alloc (.cells #[Xp f.heap.size] 59)=p;have M:=Xt a0;have bH:=X1 a0;have aD:∀ a,some ((Xa H.heap.size 0):Addr)=some a->∀ i u,[Xp f.heap.size][i]?=some u->p.cell? (a.add i)=some u:=by rw [<- a0];exact Q3 H #[Xp f.heap.size] 59
 have aE:d<H.heap.size:=by omega
 have ak:=(Xh M d 0 aE).trans ai;have al:=(Xj M d 0 aE).trans aj;refine ⟨.inr ⟨al,ak⟩,?_⟩;have ab:Xb f p:=aJ.out.trans (M.mono (by omega));have ac:Xb h p:=aX.out.trans (ab.mono bv);have ad:Xb w p:=R.out.trans (ac.mono R.out.size);have bk:=Qa ab;have aF:=Qa ac;have B:=Qa ad;have bm:=Qa ((M.block _ (by omega)).trans aK.out);have aB:=Qa (QX aG.out ad);clear a0 M ai aj ab ac ad aX aJ aK;refine Qbe 11 ?_;simp only [Xq];refine QeZ p _ _ 35 (by rfl) 0 59 bA _ 1 8 Tryz.underlying35 bB br bs bt rfl (.slice E g.length F) g.length _ (by rfl) aB.out (some (Xa H.heap.size 0)) 1 1 [Xp f.heap.size] (by rfl) (by simp) rfl aD (by simp [Value.oneCell']) (by omega) (by omega) X3 ?_;intro bL v aa a1;obtain ⟨I,J,rfl⟩:=Qy aa;have bI:p.heap.size<=v.heap.size:=a1.size;have ap:∀ b,Value.ownBlock (.slice E g.length F)=some b->b≠d/\b<w.heap.size:=λb e=>⟨λo=>by have a8:=aO.out b e;rw [o,b8.out.wo] at a8;simp at a8,(aG.out.lt b e).2⟩;have af:∀ b,b<p.heap.size->Value.ownBlock (.slice E g.length F)≠some b->v.heap[b]?=p.heap[b]?:=λb A y=>a1.by.block b A (λe=>y e.symm);have a3:v.heap[d]?=p.heap[d]?:=af d (by omega) (λe=>(ap _ e).1 rfl);have aZ:=(Xk d 0 a3).trans ak;have b0:=(Xm d 0 a3).trans al;refine ⟨.inr ⟨b0,aZ⟩,?_⟩;have bn:=Qa aa;have a2:=Qa a1;have b1:=Qa ap;have aL:=Qa af;have b2:=Qa a3;clear aa a1 ap af a3 ak al aD aB;try simp only [Xr]
 refine Qbe 12 ?_;simp only [Xq];go_simp;refine Qbe 13 ?_;simp only [Xq];go_simp;refine Qbe 14 ?_;simp only [Xq];go_simp;refine ⟨by kernel_rfl,?_⟩;refine ZP (by kernel_rfl) ?_ _;go_wp2;go_ret;have bi:∀ b,b≠d->(v.setCell (Xa d 0) (.slice I (g.length+1) J)).heap[b]?=v.heap[b]?:=λb A=>X5 A;have a9:∀ b,w.heap.size<=b->b<p.heap.size->(v.setCell (Xa d 0) (.slice I (g.length+1) J)).heap[b]?=p.heap[b]?:=λb a8 bE=>(bi b (by omega)).trans (aL.out b bE (λe=>by have:=(b1.out b e).2;omega));have a4:(v.setCell (Xa d 0) (.slice I (g.length+1) J)).heap.size=v.heap.size:=QJ _ _ _;have bJ:=R.out.size;have j:=aV.out;have bo:s<h.heap.size:=Q9 j.blk;have b3:∀ b,Value.ownBlock (.slice I (g.length+1) J)=some b->Value.ownBlock (.slice E g.length F)=some b \/ p.heap.size<=b:=λb e=>by
  rcases a2.out with ⟨o,_⟩|⟨o,_⟩
  ·rw [e] at o;exact .inl o.symm
  rw [e] at o;have:=Xb5 o;exact .inr (by omega)
 obtain ⟨ae,bp⟩:=b8.out.more (wF:=v.setCell (Xa d 0) (.slice I (g.length+1) J)) (D:=⟨f.heap.size,s,q,h.heap.size,au,T,nb,Zd L n,R',n,a7⟩) (S2:=λb=>h.heap.size<=b/\b<f.heap.size) (vp:=.slice E g.length F) (vp':=.slice I (g.length+1) J) aO.out
  ⟨a2.out.by.os.trans B.out.os,a2.out.by.tape.trans B.out.tape,a2.out.by.output.trans B.out.output,by rw [a4];have:=B.out.size;omega,λb A y=>(bi b λe=>y (.inl e)).trans ((aL.out b (by omega) λe=>y (.inr e.symm)).trans (B.out.block b A))⟩
  (Xc9 _ _ _ aZ) ((Xd4 ..).trans b0)
  (λr bM=>⟨(Xb9 _ _ _ _ (λe=>by cases e;omega)).trans ((Xb3 b2.out).trans (Xb3 (B.out.block d N))),(Xd4 ..).trans ((Qb1 b2.out _).trans (Qb1 (B.out.block d N) _))⟩)
  (Qbl bn.out (.inr λe=>by
   rcases b3 d e with o|o
   ·exact (b1.out d o).1 rfl
   ·omega))
  (λb e=>by
   rcases b3 b e with o|o
   ·exact .inl o
   ·refine .inr ⟨by omega,by show b≠f.heap.size;omega,by show b≠s;omega,?_,by show ¬ (_/\_);omega⟩
    show T b=none
    cases bx:T b with
    | none=>rfl
    | some x=>have:=j.dom.low b (by rw [bx];rfl);omega)
  ((a9 _ (by show w.heap.size<=f.heap.size;omega) (by show f.heap.size<_;omega)).trans bm.out)
  ((a9 s j.ldb (by omega)).trans ((aF.out.block s bo).trans j.blk))
  (by show w.heap.size<=f.heap.size;omega) j.ldb
  ((j.dom.below aF.out).heap (by rw [a4];omega) λb e=>a9 b (j.role b e).1 (by have:=j.dom.low b e;omega))
  (λb e=>by
   have a8:=j.dom.low b e
   exact ⟨(j.role b e).1,by show b≠f.heap.size;omega,(j.role b e).2,by show ¬ (_/\_);omega⟩)
  (Qq.heap (w:=f) bl.out (by rw [a4];omega) λb A e=>⟨(a9 b (by omega) (by omega)).trans (bk.out.block b A),e,A⟩)
  (λb e=>⟨by omega,by rw [a4];omega,by show b≠f.heap.size;omega,by show b≠s;omega⟩)
  bj.out ag.out.1 ag.out.2.1 ag.out.2.2 (by show (n:Int)<=k;omega)
 exact ⟨rfl,ae,_,bp⟩
structure SOp where
 kind:Int
 at':Int
 la:Option Addr
 ln:Nat
 lc:Nat
 L:Nat->Qd
 pa:Option Addr
 pn:Nat
 pc:Nat
 X:Nat->Qh
def SOp.cells (a:SOp):Array Value:=#[Xi a.kind,Xi a.at',.slice a.la a.ln a.lc,.slice a.pa a.pn a.pc]
def SOp.val (a:SOp):Value:=.agg a.cells
structure SOp.Ok (w:World) (o:SOp):Prop where
 lst:Qa7 w o.la o.ln o.L
 pat:JV w o.pa o.pn o.X
 len:o.pn*88<=140737488351232
 few:o.pn<=1048576
 px:∀ i,i<o.pn->((o.X i).Ok/\(o.X i).Ints)/\Qu (o.X i).key
 lo:-9223372036854775808<=o.at'
 hi:o.at'<=9223372036854775807
 cap:o.ln<=o.lc
theorem Qa7.below {w w':World} {ao:Option Addr} {n:Nat} {L:Nat->Qd} (a:Qa7 w ao n L) (b:Xb w w'):Qa7 w' ao n L:=⟨a.at'.below b,a.inn,a.cap,a.len,a.key⟩
theorem SOp.Ok.below {w w':World} {c:SOp} (a:c.Ok w) (b:Xb w w'):c.Ok w':=⟨a.lst.below b,a.pat.below b,a.len,a.few,a.px,a.lo,a.hi,a.cap⟩
theorem Qor g own w c h m k (q:QH g own w c h m k) (y:m<=400000000) (t:400<=k) (r:Int) f (d i:Nat) L (pv:Value) (n:Qa7 w f d L) (u:0<h.length) : Xl 7 #[Xp c,.agg #[Xi 1,Xi r,.slice f d i,pv]] w λe w'=>e=.returned (.bool true)/\∃ a b,0<b.length/\QH g a w' c b (m+1) (k+1048576):=by
 have v:Hid (∀ w1,Xb w w1->Xl 6 #[Xp c,.slice f d i] w1 λe w'=>e=.returned (.bool true)/\∃ a b,0<b.length/\QH g a w' c b (m+1) (k+1048576)):=Qa λw1 l=>by
  have o:=q.below (Nat.le_refl m) (Int.le_refl k) l;by_cases p:(Zk (QF L) d).1=0
  ·refine (QmU g own w1 c h m k o (by omega) t f d i L (n.below l) p).mono ?_;rintro e w' ⟨rfl,a,D,j⟩;exact ⟨rfl,a,_,by simp,j.below X0 (by omega) X4⟩
  refine (Qu0 c w1 f d i L (n.below l) (by simpa [bne] using p)).mono ?_;rintro e w' ⟨rfl,x⟩;exact ⟨rfl,own,h,u,o.below (by omega) (by omega) x⟩
 clear q n;go_enter Tryz.func7,Tryz.ntmps7;go_wp2_with fail;refine (Qb v _ Xd).mono ?_;rintro e w2 ⟨rfl,a,b,s,j⟩;go_wp2;go_ret;exact ⟨rfl,a,b,s,j⟩
theorem Qd7 (b:w.ownsRow base e size v n xs) (d:0<n):∃ g a,v=Xe g n a:=by
 rcases b.2 with ⟨_,e⟩|⟨g,a,c,rfl,_,_,_⟩
 ·omega
 exact ⟨g,a,rfl⟩
theorem QwA o own w c a m k (j:QH o own w c a m k) (J:m<=400000000) (b:Int) (v:-9223372036854775808<=b) (x:b<=9223372036854775807) (z:Option Addr) (A B:Nat) (pa:Option Addr) (s t:Nat) (p:0<a.length) : Xl 7 #[Xp c,.agg #[Xi 2,Xi b,.slice z A B,.slice pa s t]] w λe w'=>e=.returned (.bool true)/\∃ d f,0<f.length/\QH o d w' c f (m+1) (k+1048576):=by
 obtain ⟨vp,C,K,q,L⟩:=j.top;obtain ⟨i,M,rfl⟩:=Qd7 q p;have E:c<w.heap.size:=(j.low c (by rw [j.wo];rfl)).2;have F:i<w.heap.size:=(q.lt i rfl).2;have R:=j.few;have l:=QdP b p;have D:w.cell? (Xa i (Zf b a.length))=some (Xp ((a[Zf b a.length]'l).pb)):=by rw [q.cellAt _ (by omega),getElem?_map,getElem?_eq_getElem l];rfl
 have S:((a.length:Int)==0)=false:=by rw [beq_eq_false_iff_ne];omega
 have G:Hid (∀ w1,Xl 16 #[Xi b,Xi a.length] w1 λe w'=>e=.returned (Xi (Zf b a.length:Nat))/\w'=w1):=Qa λw1=>QdT b a.length w1 p (by omega) v x;have N:Hid (∀ w1,Xb w w1->Xl 17 #[Xp c,Xp ((a[Zf b a.length]'l).pb),Xi 2] w1 λe w'=>e=.returned (.bool true)/\∃ d f,0<f.length/\QH o d w' c f (m+1) (k+1048576)):=Qa λw1 g=>by have O:=j.below (Nat.le_refl m) (Int.le_refl k) g;refine (Qta o own w1 c a m k O J _ l).mono ?_;rintro e w' ⟨rfl,d,r⟩;exact ⟨rfl,d,a,p,r.below X0 (by omega) X4⟩
 clear j K q L v x;generalize (a[Zf b a.length]'l).pb=P at *;generalize Zf b a.length=u at *;generalize a.length=n at *;have T:(u:Int)<(n:Int):=by omega
 go_enter Tryz.func7,Tryz.ntmps7;go_wp2_with fail;generalize h:w.alloc (.cells #[Xi 2,Xi b,.slice z A B,.slice pa s t] 27)=w1;have g:=Xt h;have U:w.heap.size<w1.heap.size:=by rw [<- h];simp
 have V:=Xz h 0 (Xi 2) rfl;have W:=Xz h 1 (Xi b) rfl;have X:=Xz h 3 (.slice pa s t) rfl;have u1:=(Xh g c 0 E).trans C;have Y:=(Xh g i u F).trans D;have H:=Qa g;clear h g C D;go_region_held3 (λw'=>w'.cell? (Xa c 0)=some (Xe i n M)/\w'.cell? (Xa w.heap.size 1)=some (Xi b)/\w'.cell? (Xa i u)=some (Xp P)) (first|go_keep) (first|(go_at_call 16;refine (Qb G _).mono ?_;rintro e w' ⟨rfl,y⟩;rw [y];clear y));go_wp2_with (first|(go_at_call 17;refine (Qb N _ H.out.drew).mono ?_;rintro e a0 ⟨rfl,d,f,I,r⟩));go_ret;exact ⟨rfl,d,f,I,r⟩
theorem QnU o own w c a m k (j:QH o own w c a m k) (J:m<=400000000) (b:Int) (v:-9223372036854775808<=b) (x:b<=9223372036854775807) (z:Option Addr) (A B:Nat) (pa:Option Addr) (s t:Nat) (p:0<a.length) : Xl 7 #[Xp c,.agg #[Xi 3,Xi b,.slice z A B,.slice pa s t]] w λe w'=>e=.returned (.bool true)/\∃ d f,0<f.length/\QH o d w' c f (m+1) (k+1048576):=by
 obtain ⟨vp,C,K,q,L⟩:=j.top;obtain ⟨i,M,rfl⟩:=Qd7 q p;have E:c<w.heap.size:=(j.low c (by rw [j.wo];rfl)).2;have F:i<w.heap.size:=(q.lt i rfl).2;have R:=j.few;have l:=QdP b p;have D:w.cell? (Xa i (Zf b a.length))=some (Xp ((a[Zf b a.length]'l).pb)):=by rw [q.cellAt _ (by omega),getElem?_map,getElem?_eq_getElem l];rfl
 have S:((a.length:Int)==0)=false:=by rw [beq_eq_false_iff_ne];omega
 have G:Hid (∀ w1,Xl 16 #[Xi b,Xi a.length] w1 λe w'=>e=.returned (Xi (Zf b a.length:Nat))/\w'=w1):=Qa λw1=>QdT b a.length w1 p (by omega) v x;have N:Hid (∀ w1,Xb w w1->Xl 17 #[Xp c,Xp ((a[Zf b a.length]'l).pb),Xi 3] w1 λe w'=>e=.returned (.bool true)/\∃ d f,0<f.length/\QH o d w' c f (m+1) (k+1048576)):=Qa λw1 g=>by have O:=j.below (Nat.le_refl m) (Int.le_refl k) g;refine (Qrr o own w1 c a m k O J _ l).mono ?_;rintro e w' ⟨rfl,d,r⟩;exact ⟨rfl,d,a,p,r.below X0 (by omega) X4⟩
 clear j K q L v x;generalize (a[Zf b a.length]'l).pb=P at *;generalize Zf b a.length=u at *;generalize a.length=n at *;have T:(u:Int)<(n:Int):=by omega
 go_enter Tryz.func7,Tryz.ntmps7;go_wp2_with fail;generalize h:w.alloc (.cells #[Xi 3,Xi b,.slice z A B,.slice pa s t] 27)=w1;have g:=Xt h;have U:w.heap.size<w1.heap.size:=by rw [<- h];simp
 have V:=Xz h 0 (Xi 3) rfl;have W:=Xz h 1 (Xi b) rfl;have X:=Xz h 3 (.slice pa s t) rfl;have u1:=(Xh g c 0 E).trans C;have Y:=(Xh g i u F).trans D;have H:=Qa g;clear h g C D;go_region_held3 (λw'=>w'.cell? (Xa c 0)=some (Xe i n M)/\w'.cell? (Xa w.heap.size 1)=some (Xi b)/\w'.cell? (Xa i u)=some (Xp P)) (first|go_keep) (first|(go_at_call 16;refine (Qb G _).mono ?_;rintro e w' ⟨rfl,y⟩;rw [y];clear y));go_wp2_with (first|(go_at_call 17;refine (Qb N _ H.out.drew).mono ?_;rintro e a0 ⟨rfl,d,f,I,r⟩));go_ret;exact ⟨rfl,d,f,I,r⟩
theorem Qpg o own w c a m k (j:QH o own w c a m k) (T:m<=400000000) (b:Int) (v:-9223372036854775808<=b) (x:b<=9223372036854775807) (z:Option Addr) (A B:Nat) (pa:Option Addr) (s t:Nat) (p:0<a.length) : Xl 7 #[Xp c,.agg #[Xi 4,Xi b,.slice z A B,.slice pa s t]] w λe w'=>e=.returned (.bool true)/\∃ d f,0<f.length/\QH o d w' c f (m+1) (k+1048576):=by
 obtain ⟨vp,C,J,q,K⟩:=j.top;obtain ⟨i,L,rfl⟩:=Qd7 q p;have E:c<w.heap.size:=(j.low c (by rw [j.wo];rfl)).2;have F:i<w.heap.size:=(q.lt i rfl).2;have P:=j.few;have l:=QdP b p;have D:w.cell? (Xa i (Zf b a.length))=some (Xp ((a[Zf b a.length]'l).pb)):=by rw [q.cellAt _ (by omega),getElem?_map,getElem?_eq_getElem l];rfl
 have R:((a.length:Int)==0)=false:=by rw [beq_eq_false_iff_ne];omega
 have G:Hid (∀ w1,Xl 16 #[Xi b,Xi a.length] w1 λe w'=>e=.returned (Xi (Zf b a.length:Nat))/\w'=w1):=Qa λw1=>QdT b a.length w1 p (by omega) v x;have M:Hid (∀ w1,Xb w w1->Xl 17 #[Xp c,Xp ((a[Zf b a.length]'l).pb),Xi 4] w1 λe w'=>e=.returned (.bool true)/\∃ d f,0<f.length/\QH o d w' c f (m+1) (k+1048576)):=Qa λw1 g=>by have N:=j.below (Nat.le_refl m) (Int.le_refl k) g;refine (QsH o own w1 c a m k N _ l).mono ?_;rintro e w' ⟨rfl,d,r⟩;exact ⟨rfl,d,a,p,r.below X0 (by omega) X4⟩
 clear j J q K v x;generalize (a[Zf b a.length]'l).pb=O at *;generalize Zf b a.length=u at *;generalize a.length=n at *;have S:(u:Int)<(n:Int):=by omega
 go_enter Tryz.func7,Tryz.ntmps7;go_wp2_with fail;generalize h:w.alloc (.cells #[Xi 4,Xi b,.slice z A B,.slice pa s t] 27)=w1;have g:=Xt h;have U:w.heap.size<w1.heap.size:=by rw [<- h];simp
 have V:=Xz h 0 (Xi 4) rfl;have W:=Xz h 1 (Xi b) rfl;have X:=Xz h 3 (.slice pa s t) rfl;have u1:=(Xh g c 0 E).trans C;have Y:=(Xh g i u F).trans D;have H:=Qa g;clear h g C D;go_region_held3 (λw'=>w'.cell? (Xa c 0)=some (Xe i n L)/\w'.cell? (Xa w.heap.size 1)=some (Xi b)/\w'.cell? (Xa i u)=some (Xp O)) (first|go_keep) (first|(go_at_call 16;refine (Qb G _).mono ?_;rintro e w' ⟨rfl,y⟩;rw [y];clear y));go_wp2_with (first|(go_at_call 17;refine (Qb M _ H.out.drew).mono ?_;rintro e a0 ⟨rfl,d,f,I,r⟩));go_ret;exact ⟨rfl,d,f,I,r⟩
theorem QsU t own w g c m k (h:QH t own w g c m k) (a8:m<=400000000) (a9:k<=2305843009213693952) (d:Int) (D:-9223372036854775808<=d) (E:d<=9223372036854775807) (G:Option Addr) (H I:Nat) pa (f u:Nat) r (y:JV t pa f r) (M:f*88<=140737488351232) (a5:f<=1048576) (A:∀ i,i<f->((r i).Ok/\(r i).Ints)/\Qu (r i).key) (v:0<c.length) : Xl 7 #[Xp g,.agg #[Xi 5,Xi d,.slice G H I,.slice pa f u]] w λe w'=>e=.returned (.bool true)/\∃ j l,0<l.length/\QH t j w' g l (m+1) (k+1048576):=by
 obtain ⟨vp,J,V,x,W⟩:=h.top;obtain ⟨q,X,rfl⟩:=Qd7 x v;have N:g<w.heap.size:=(h.low g (by rw [h.wo];rfl)).2;have O:q<w.heap.size:=(x.lt q rfl).2;have a4:=h.few;have s:=QdP d v;have K:w.cell? (Xa q (Zf d c.length))=some (Xp ((c[Zf d c.length]'s).pb)):=by rw [x.cellAt _ (by omega),getElem?_map,getElem?_eq_getElem s];rfl
 have a6:((c.length:Int)==0)=false:=by rw [beq_eq_false_iff_ne];omega
 have P:Hid (∀ w1,Xl 16 #[Xi d,Xi c.length] w1 λe w'=>e=.returned (Xi (Zf d c.length:Nat))/\w'=w1):=Qa λw1=>QdT d c.length w1 v (by omega) D E;have Y:Hid (∀ w1,Xb w w1->Xl 18 #[Xp ((c[Zf d c.length]'s).pb),.slice pa f u] w1 λe w'=>e=.returned (.bool true)/\∃ j l,0<l.length/\QH t j w' g l (m+1) (k+1048576)):=Qa λw1 o=>by
  have a0:=h.below (Nat.le_refl m) (Int.le_refl k) o;have R:JV w1 pa f r:=y.below (h.base.trans (o.mono h.base.size));refine (Qt7 t own w1 g c m k a0 _ s pa f u r R (λS a e=>?_) M (by omega) (by omega) (λi B=>(A i B).1) (λi B=>(A i B).2)).mono ?_
  ·obtain ⟨b,ai,L,a1⟩:=y S;rw [e] at L;have aa:a.block=b:=by cases L;rfl
   cases a2:own a.block with| none=>rfl| some aj=>have:=(h.low a.block (by rw [a2];rfl)).1;have:=a1.lt;omega
  rintro e w' ⟨rfl,j,ab,z⟩;exact ⟨rfl,j,_,by rw [length_set];exact v,z.below X0 (by omega) X4⟩
 clear h V x W y A D E;generalize (c[Zf d c.length]'s).pb=a3 at *;generalize Zf d c.length=C at *;generalize c.length=n at *;have a7:(C:Int)<(n:Int):=by omega
 go_enter Tryz.func7,Tryz.ntmps7;go_wp2_with fail;generalize p:w.alloc (.cells #[Xi 5,Xi d,.slice G H I,.slice pa f u] 27)=w1;have o:=Xt p;have ac:w.heap.size<w1.heap.size:=by rw [<- p];simp
 have ad:=Xz p 0 (Xi 5) rfl;have ae:=Xz p 1 (Xi d) rfl;have af:=Xz p 3 (.slice pa f u) rfl;have u1:=(Xh o g 0 N).trans J;have ag:=(Xh o q C O).trans K;have T:=Qa o;clear p o J K;go_region_held3 (λw'=>w'.cell? (Xa g 0)=some (Xe q n X)/\w'.cell? (Xa w.heap.size 1)=some (Xi d)/\w'.cell? (Xa q C)=some (Xp a3)) (first|go_keep) (first|(go_at_call 16;refine (Qb P _).mono ?_;rintro e w' ⟨rfl,F⟩;rw [F];clear F));go_wp2_with (first|(go_at_call 18;refine (Qb Y _ T.out.drew).mono ?_;rintro e ah ⟨rfl,j,l,U,z⟩));go_ret;exact ⟨rfl,j,l,U,z⟩
theorem Qwp r own w d b m k (i:QH r own w d b m k) (R:m<=400000000) (c:Int) (S:(c==1)=false) (T:(c==2)=false) (U:(c==3)=false) (V:(c==4)=false) (W:(c==5)=false) (X:(c==6)=false) (Y:(c==7)=false) (a:Int) (v:-9223372036854775808<=a) (x:a<=9223372036854775807) (z:Option Addr) (A B:Nat) (pa:Option Addr) (s t:Nat) (l:0<b.length) : Xl 7 #[Xp d,.agg #[Xi c,Xi a,.slice z A B,.slice pa s t]] w λe w'=>e=.returned (.bool true)/\∃ p j,0<j.length/\QH r p w' d j (m+1) (k+1048576):=by
 obtain ⟨vp,C,I,o,J⟩:=i.top;obtain ⟨h,K,rfl⟩:=Qd7 o l;have E:d<w.heap.size:=(i.low d (by rw [i.wo];rfl)).2;have F:h<w.heap.size:=(o.lt h rfl).2;have N:=i.few;have q:=QdP a l;have D:w.cell? (Xa h (Zf a b.length))=some (Xp ((b[Zf a b.length]'q).pb)):=by rw [o.cellAt _ (by omega),getElem?_map,getElem?_eq_getElem q];rfl
 have O:((b.length:Int)==0)=false:=by rw [beq_eq_false_iff_ne];omega
 have G:Hid (∀ w1,Xl 16 #[Xi a,Xi b.length] w1 λe w'=>e=.returned (Xi (Zf a b.length:Nat))/\w'=w1):=Qa λw1=>QdT a b.length w1 l (by omega) v x;have L:Hid (∀ w1,Xb w w1->∃ p j,0<j.length/\QH r p w1 d j (m+1) (k+1048576)):=Qa λw1 f=>⟨own,b,l,i.below (by omega) (by omega) f⟩;clear i I o J v x;generalize (b[Zf a b.length]'q).pb=M at *;generalize Zf a b.length=u at *;generalize b.length=n at *;have P:(u:Int)<(n:Int):=by omega
 go_enter Tryz.func7,Tryz.ntmps7;go_wp2_with fail;generalize g:w.alloc (.cells #[Xi c,Xi a,.slice z A B,.slice pa s t] 27)=w1;have f:=Xt g;have a0:w.heap.size<w1.heap.size:=by rw [<- g];simp
 have a1:=Xz g 0 (Xi c) rfl;have a2:=Xz g 1 (Xi a) rfl;have a3:=Xz g 3 (.slice pa s t) rfl;have u1:=(Xh f d 0 E).trans C;have a4:=(Xh f h u F).trans D;have H:=Qa f;clear g f C D;go_region_held3 (λw'=>w'.cell? (Xa d 0)=some (Xe h n K)/\w'.cell? (Xa w.heap.size 1)=some (Xi a)/\w'.cell? (Xa h u)=some (Xp M)) (first|go_keep) (first|(go_at_call 16;refine (Qb G _).mono ?_;rintro e w' ⟨rfl,y⟩;rw [y];clear y));go_wp2;go_ret;exact ⟨rfl,L.out _ H.out.drew⟩
theorem Qox d own w c f m k (a:QH d own w c f m k) (H:m<=400000000) : Xl 8 #[.pointer (some (Xa c 1))] w λe w'=>e=.returned (.bool true)/\Xb w w':=by obtain ⟨g,h,i,_,j,_,I,_⟩:=a.book.nums;obtain ⟨l,n,o,_,p,_,J,_⟩:=a.book.atts;obtain ⟨q,r,s,_,t,_,K,_⟩:=a.book.nods;obtain ⟨u,v,x,_,y,_,L,_⟩:=a.book.pats;obtain ⟨z,A,B,_,C,_,M,_⟩:=a.book.evts;obtain ⟨D,E,F,_,G,_,N,_⟩:=a.book.coms;exact QsG (λb=>own b=some (0,2)) c 1 w g h (by omega) i j l n (by omega) o p q r (by omega) s t u v (by omega) x y z A (by omega) B C D E (by omega) F G
structure Qd6 (w:World) (so:Option Addr) (n:Nat) (O:Nat->SOp):Prop where
 at':0<n->∃ b o,so=some (Xa b o)/\b<w.heap.size/\∀ j r,j<n->r<4->w.cell? (Xa b (o+j*4+r))=(O j).cells[r]?
 ok:∀ j,j<n->(O j).Ok w
def Jq (i:Nat):Qd:=if i=0 then ⟨0,⟨#[100,105,118]⟩,0,none,0,0,⟨#[]⟩,λ_=>⟨#[]⟩,λ_=>⟨#[]⟩⟩ else ⟨1,⟨#[112]⟩,i,none,0,0,⟨#[]⟩,λ_=>⟨#[]⟩,λ_=>⟨#[]⟩⟩
theorem Qn3:(Zk (QF Jq) 3).1=0:=by decide +kernel
def Qa9:Array Value:=#[Xi 0,.string ⟨#[100,105,118]⟩,Xi 0,Xv,Xo,Xi 1,.string ⟨#[112]⟩,Xi 1,Xv,Xo,Xi 1,.string ⟨#[112]⟩,Xi 2,Xv,Xo]
theorem QvE (w:World) (t:TypeId):Qa7 (w.alloc (.cells Qa9 t)) (some (Xa w.heap.size 0)) 3 Jq where
 at':=by
  intro _
  refine ⟨w.heap.size,0,rfl,by simp,λi c=>?_⟩
  have a:∀ n:Nat,n<=8->n<=maxLen:=λn d=>by unfold maxLen;omega
  match i,c with
  | 0,_=>exact ⟨by simp [go_sem,Jq,Qa9],by simp [go_sem,Jq,Qa9],by simp [go_sem,Jq,Qa9],by simp [go_sem,Jq,Qa9],by simp [go_sem,Jq,Qa9],⟨by simp [Jq],a _ (by decide),a _ (by decide),λj b=>absurd b (by simp [Jq])⟩⟩
  | 1,_=>exact ⟨by simp [go_sem,Jq,Qa9],by simp [go_sem,Jq,Qa9],by simp [go_sem,Jq,Qa9],by simp [go_sem,Jq,Qa9],by simp [go_sem,Jq,Qa9],⟨by simp [Jq],a _ (by decide),a _ (by decide),λj b=>absurd b (by simp [Jq])⟩⟩
  | 2,_=>exact ⟨by simp [go_sem,Jq,Qa9],by simp [go_sem,Jq,Qa9],by simp [go_sem,Jq,Qa9],by simp [go_sem,Jq,Qa9],by simp [go_sem,Jq,Qa9],⟨by simp [Jq],a _ (by decide),a _ (by decide),λj b=>absurd b (by simp [Jq])⟩⟩
 inn:=⟨λi _ _=>by unfold Jq;split<;>rfl,λi _=>by unfold Jq;split<;>(show 0*32<=_;omega)⟩
 cap:=λi _ _=>by unfold Jq;split<;>rfl
 len:=by omega
 key:=λi c=>by
  match i,c with
  | 0,_=>show Qu 0;unfold Qu;omega
  | 1,_=>show Qu 1;unfold Qu;omega
  | 2,_=>show Qu 2;unfold Qu;omega
def Qfl:Array Value:=#[Xv,Xv,Xv,Xv,Xv,Xv,Xv]
theorem QvX (w:World) (g:Obj):QH w (λb=>if b=w.heap.size then some (0,0) else none) ((w.alloc (.cells Qfl 45)).alloc g) w.heap.size [] 0 400:=by
 have d:((w.alloc (.cells Qfl 45)).alloc g).heap[w.heap.size]?=some (.cells Qfl 45 (0,0)):=by rw [Below.heap_alloc _ _ _ (by simp)];show (w.heap.push _)[w.heap.size]?=_;simp
 have a:∀ c e pat size,c<6->QbD (λb=>if b=w.heap.size then some (0,0) else none) ((w.alloc (.cells Qfl 45)).alloc g) w.heap.size c (20*0) e pat size:=λc e pat size j=>by
  refine ⟨Xv,[],Qj d (c+1) _ ?_,Qax d _,⟨Xc0 _ _ _ _,λi f=>absurd f (Xb7 _)⟩,rfl,X0,λb e=>by cases e⟩
  match c,j with
  | 0,_=>rfl
  | 1,_=>rfl
  | 2,_=>rfl
  | 3,_=>rfl
  | 4,_=>rfl
  | 5,_=>rfl
 refine ⟨if_pos rfl,⟨Xv,Qj d 0 _ rfl,Qax d _,Xc0 _ _ _ _,λb e=>by cases e⟩,λi f=>absurd f (Xb7 _),⟨a 0 _ _ _ (by omega),a 1 _ _ _ (by omega),a 2 _ _ _ (by omega),a 3 _ _ _ (by omega),a 4 _ _ _ (by omega),a 5 _ _ _ (by omega)⟩,λb e=>?_,Xn,X0,λD k=>by simp at k⟩;by_cases h:b=w.heap.size
 ·subst h;simp;omega
 replace e:(if b=w.heap.size then some ((0:Nat),(0:Nat)) else none).isSome=true:=e;rw [if_neg h] at e;cases e
theorem Qd6.below {w w':World} {d:Option Addr} {n:Nat} {g:Nat->SOp} (h:Qd6 w d n g) (a:Xb w w'):Qd6 w' d n g where
 at':=λi=>by
  obtain ⟨b,m,e,f,k⟩:=h.at' i
  exact ⟨b,m,e,Xb4 f a.size,λj r c l=>(Xh a b _ f).trans (k j r c l)⟩
 ok:=λj c=>(h.ok j c).below a
theorem QmF (w:World) (L:Nat->Qd):Qa7 w none 0 L:=⟨λb=>absurd b (Xc8 _),⟨λi a=>absurd a (Xb7 _),λi a=>absurd a (Xb7 _)⟩,λi a=>absurd a (Xb7 _),by omega,λi a=>absurd a (Xb7 _)⟩
def QfN (k:Int):SOp:=⟨k,0,none,0,0,λ_=>Qef,none,0,0,λ_=>Qd2⟩
theorem QkF (w:World) (k:Int):(QfN k).Ok w:=⟨QmF w _,λb=>absurd b (Xc8 _),by show 0*88<=_;omega,by show 0<=_;omega,λi a=>absurd a (Xb7 _),by show _<=(0:Int);omega,by show (0:Int)<=_;omega,X0⟩
theorem Ql4:Tryz.prog.cellsOf 33=5:=by kernel_rfl
theorem Quv:Tryz.prog.cellsOf 72=2:=by kernel_rfl
theorem QiN:Tryz.prog.cellsOf 3=1:=by kernel_rfl
theorem Qg5:Tryz.prog.cellsOf 9=1:=by kernel_rfl
theorem Qvt:Tryz.prog.cellsOf 31=1:=by kernel_rfl
section
variable {H : Type} {enc : TypeId × Value → H} {W : World} {base : Nat} {spare : Nat → Bool} {held : Bool} {fuel : Nat}
theorem QfR {a:Addr} (c:a.spot=none) (j:Nat):a.add j=(Xa a.block (a.off+j)):=by obtain ⟨b,d,s⟩:=a;cases c;exact QdH b d j
theorem Qws {x:DataW H × List MemPlace} (f:DataW.trod enc Tryz.prog W base spare held fuel 31 [v]=some x) : ∃ (ao:Option Addr) (an ac:Nat) (nm vl:Nat->ByteArray),v=.slice ao an ac/\an<=maxLen/\Zn W ao an nm vl/\(ao=none->an=0/\ac=0)/\(ao≠none->∃ t A,x.1=.slice t A/\t.length=an):=by
 rcases open_slice_pairs Tryz.underlying31 Tryz.underlying72 Quv rfl rfl Qg5 Qg5 f with ⟨d,_⟩|⟨a,h,y,m,n,B,C,J,K,L,M,d,_,N,O,z,D,g⟩
 ·simp at d;exact ⟨none,0,0,λ_=>⟨#[]⟩,λ_=>⟨#[]⟩,d,X3,λj c=>absurd c (Xb7 _),λ_=>⟨rfl,rfl⟩,λf=>absurd rfl f⟩
 simp at d;have I:h<=m:=by rw [z];split<;>omega
 obtain ⟨nm,q⟩:=choose_lt (α:=ByteArray) (n:=h) (p:=λi s=>B i=.string s/\s.size<=maxLen) (λi E=>by obtain ⟨_,_,F,_⟩:=g i (by omega);obtain ⟨s,e,_,l⟩:=DataW.trod_string Tryz.underlying9 F;simp at e;exact ⟨s,e,l⟩);obtain ⟨vl,r⟩:=choose_lt (α:=ByteArray) (n:=h) (p:=λi s=>C i=.string s/\s.size<=maxLen) (λi E=>by obtain ⟨_,_,_,G⟩:=g i (by omega);obtain ⟨s,e,_,l⟩:=DataW.trod_string Tryz.underlying9 G;simp at e;exact ⟨s,e,l⟩);refine ⟨some a,h,y,nm,vl,d,by omega,λj c=>?_,(λf=>by cases f),λ_=>⟨_,_,by rw [D],by simp⟩⟩;have k:a.spot=none:=by simpa [Addr.add] using World.cell?_spot (g 0 (by omega)).1
 obtain ⟨o,u,_,_⟩:=g j (by omega);rw [QfR k,(q j c).1] at o;rw [QfR k,(r j c).1] at u;refine ⟨a.block,a.off,?_,World.block_lt_of_cell? W (Xa a.block (a.off+j*2)) o,o,u,(q j c).2,(r j c).2⟩;obtain ⟨b,P,s⟩:=a;cases k;rfl
theorem QuJ {x:DataW H × List MemPlace} (I:W.cells? base (Xa b p) 5=some cs) (U:DataW.trod enc Tryz.prog W base spare held fuel 33 cs=some x) :
  ∃ m:Qd,Qd8 W b p m/\(m.ao=none->m.an=0/\m.ac=0)/\(m.ao≠none->∃ J K L f g M,x.1=.agg [J,K,L,.slice f g,M]/\f.length=m.an)/\(Lit.int .i64 m.k).wf=true:=by
 obtain ⟨_,y,a⟩:=World.cells?_some I
 obtain ⟨N,k,_,O,_,B,c⟩:=DataW.trod_struct Tryz.underlying33 U
 match cs,y,N,B with
 | [v0,v1,v2,v3,v4],_,[y0,y1,y2,y3,y4],_ =>
  have h:=c 0 _ rfl
  have i:=c 1 _ rfl
  have j:=c 2 _ rfl
  have l:=c 3 _ rfl
  have n:=c 4 _ rfl
  simp [QiN,Qg5,Qvt] at h i j l n
  obtain ⟨d,o,_,_⟩:=DataW.trod_int Tryz.underlying3 h
  obtain ⟨t,q,_,P⟩:=DataW.trod_string Tryz.underlying9 i
  obtain ⟨key,r,_,z⟩:=DataW.trod_int Tryz.underlying3 j
  obtain ⟨ao,an,ac,nm,vl,R,C,D,A,v⟩:=Qws l
  obtain ⟨S,s,_,E⟩:=DataW.trod_string Tryz.underlying9 n
  simp at o q r s
  subst o q r R s
  have q0:=a 0 (by omega)
  have q1:=a 1 (by omega)
  have q2:=a 2 (by omega)
  have q3:=a 3 (by omega)
  have u:=a 4 (by omega)
  rw [QdH] at q0 q1 q2 q3 u
  refine ⟨⟨d,t,key,ao,an,ac,S,nm,vl⟩,⟨q0,q1,q2,q3,u,⟨C,P,E,D⟩⟩,A,λF=>?_,z⟩
  obtain ⟨f,g,G,T⟩:=v F
  refine ⟨y0.1,y1.1,y2.1,f,g,y4.1,?_,T⟩
  rw [O]
  simp [G]
end
theorem Qly:Tryz.prog.cellsOf 29=8:=by kernel_rfl
theorem QjL:Tryz.prog.cellsOf 27=4:=by kernel_rfl
theorem Qpa:Tryz.prog.cellsOf 24=1:=by kernel_rfl
theorem Qqd:Tryz.prog.cellsOf 25=1:=by kernel_rfl
theorem QdZ {n:Int} (a:(Lit.int .i64 n).wf=true):Qu n:=by
 unfold Lit.wf at a;rw [Bool.and_eq_true] at a;have b:IntKind.min .i64<=n:=of_decide_eq_true a.1;have c:n<=IntKind.max .i64:=of_decide_eq_true a.2;have d:IntKind.min .i64=-9223372036854775808:=by decide
 have f:IntKind.max .i64=9223372036854775807:=by decide
 rw [d] at b;rw [f] at c;exact ⟨b,c⟩
section
variable {H : Type}
theorem Qp2 (d:DataW H):1<=Rows.uptoBulk d:=by cases d with| lit l=>cases l<;>simp [Rows.uptoBulk]| nil=>simp [Rows.uptoBulk]| ptr d=>simp [Rows.uptoBulk]| slice b c=>simp [Rows.uptoBulk]| agg f=>simp [Rows.uptoBulk]| iface t d=>simp [Rows.uptoBulk]| map a=>simp [Rows.uptoBulk]| held g=>simp [Rows.uptoBulk]
theorem QfX {d:DataW H}:∀ {l:List (DataW H)},d ∈ l->Rows.uptoBulk d<=Rows.uptoBulkAll l
 | x::r,a=>by
  rw [Rows.uptoBulkAll];rcases mem_cons.1 a with rfl|a
  ·omega
  have:=QfX a;omega
theorem Qkj:∀ l:List (DataW H),l.length<=Rows.uptoBulkAll l| []=>X3| x::r=>by have:=Qp2 x;have:=Qkj r;rw [Rows.uptoBulkAll,length_cons];omega
theorem Qgf {l s:List (DataW H)} (a:Rows.uptoBulk (.slice l s)<=N):Rows.uptoBulkAll l<=N/\l.length<=N:=by rw [Rows.uptoBulk] at a;have:=Qkj l;omega
theorem QiJ {l:List (DataW H)} (b:Rows.uptoBulk (.agg l)<=N) {d:DataW H} (a:d ∈ l):Rows.uptoBulk d<=N:=by rw [Rows.uptoBulk] at b;have:=QfX a;omega
variable {enc : TypeId × Value → H} {W : World} {base : Nat} {held : Bool} {fuel : Nat}
theorem QoA {x:DataW H × List MemPlace} (a5:DataW.trod enc Tryz.prog W base (λ_=>true) held fuel 24 [v]=some x) (B:Rows.uptoBulk x.1<=1048576) : ∃ (ao:Option Addr) (n c:Nat) (L:Nat->Qd),v=.slice ao n c/\Qa7 W ao n L/\n<=c:=by
 rcases open_slice Tryz.underlying24 a5 with ⟨l,_⟩|⟨a,g,a8,m,k,D,a9,l,_,R,aa,y,S,u⟩
 ·simp at l;exact ⟨none,0,0,λ_=>Qef,l,QmF _ _,X0⟩
 simp at l;simp only [if_true] at y;subst y;have K:x.1=.slice ((List.range g).map D) ((List.range (m-g)).map λj=>D (g+j)):=by rw [S]
 rw [K] at B;obtain ⟨M,O⟩:=Qgf B;rw [length_map,length_range] at O;have z:0<g->a.spot=none:=λr=>by obtain ⟨P,o,C⟩:=u 0 (by omega);rw [Ql4] at o;obtain ⟨_,a6,T⟩:=World.cells?_some o;have E:=T 0 (by omega);rw [getElem?_eq_getElem (by omega)] at E;simpa [Addr.add] using World.cell?_spot E
 have a7:Inhabited Qd:=⟨Qef⟩;obtain ⟨L,h⟩:=choose_lt (α:=Qd) (n:=g) (p:=λi q=>Qd8 W a.block (a.off+i*5) q/\(q.ao=none->q.an=0/\q.ac=0)/\Qu q.k/\q.an<=1048576) (λi f=>by
  obtain ⟨P,o,C⟩:=u i (by omega);rw [Ql4,QfR (z (by omega))] at o;obtain ⟨q,U,F,V,X⟩:=QuJ o C;refine ⟨q,U,F,QdZ X,?_⟩;by_cases A:q.ao=none
  ·rw [(F A).1];omega
  obtain ⟨Y,a0,a1,G,I,a2,t,ab⟩:=V A;have a3:D i ∈ (List.range g).map D:=Xa5.2 ⟨i,Xa6.2 f,rfl⟩;have J:=QfX a3;have t:D i=.agg [Y,a0,a1,.slice G I,a2]:=t;rw [t] at J;have a4:=QiJ (N:=1048576) (Xb6 J M) (d:=.slice G I) (by simp);have:=(Qgf a4).2;omega)
 refine ⟨some a,g,m,L,l,⟨λr=>⟨a.block,a.off,?_,?_,λi f=>(h i f).1⟩,⟨λi f e=>((h i f).2.1 e).1,λi f=>by have:=(h i f).2.2.2;omega⟩,λi f e=>((h i f).2.1 e).2,by omega,λi f=>(h i f).2.2.1⟩,R⟩
 ·have:=z r;obtain ⟨b,ad,s⟩:=a;cases this;rfl
 exact World.block_lt_of_cell? W (Xa a.block (a.off+0*5)) (h 0 r).1.c0
theorem Qte {x:DataW H × List MemPlace} {A:Nat->Bool} (E:W.cells? base (Xa b p) 8=some cs) (P:DataW.trod enc Tryz.prog W base A held fuel 29 cs=some x) :
  ∃ c:Qh,(∀ r,r<8->W.cell? (Xa b (p+r))=some (QY c r))/\(c.Ok/\c.Ints)/\Qu c.key:=by
 obtain ⟨_,C,B⟩:=World.cells?_some E
 obtain ⟨F,k,_,R,_,D,a⟩:=DataW.trod_struct Tryz.underlying29 P
 match cs,C,F,D with
 | [v0,v1,v2,v3,v4,v5,v6,v7],_,[y0,y1,y2,y3,y4,y5,y6,y7],_ =>
  have d:=a 0 _ rfl
  have f:=a 1 _ rfl
  have g:=a 2 _ rfl
  have h:=a 3 _ rfl
  have i:=a 4 _ rfl
  have j:=a 5 _ rfl
  have l:=a 6 _ rfl
  have m:=a 7 _ rfl
  simp [QiN,Qg5] at d f g h i j l m
  obtain ⟨G,n,_,_⟩:=DataW.trod_int Tryz.underlying3 d
  obtain ⟨id,o,_,w1⟩:=DataW.trod_int Tryz.underlying3 f
  obtain ⟨pa,s,_,w2⟩:=DataW.trod_int Tryz.underlying3 g
  obtain ⟨bf,t,_,w3⟩:=DataW.trod_int Tryz.underlying3 h
  obtain ⟨I,u,_,w4⟩:=DataW.trod_int Tryz.underlying3 i
  obtain ⟨J,v,_,K⟩:=DataW.trod_string Tryz.underlying9 j
  obtain ⟨nm,y,_,L⟩:=DataW.trod_string Tryz.underlying9 l
  obtain ⟨M,z,_,N⟩:=DataW.trod_string Tryz.underlying9 m
  simp at n o s t u v y z
  subst n o s t u v y z
  refine ⟨⟨G,id,pa,bf,I,J,nm,M⟩,λr O=>?_,⟨⟨K,L,N⟩,⟨QdZ w1,QdZ w2,QdZ w3⟩⟩,QdZ w4⟩
  have q:=B r (by omega)
  rw [QdH] at q
  rw [q]
  match r,O with
  | 0,_=>rfl
  | 1,_=>rfl
  | 2,_=>rfl
  | 3,_=>rfl
  | 4,_=>rfl
  | 5,_=>rfl
  | 6,_=>rfl
  | 7,_=>rfl
theorem Qn0 {x:DataW H × List MemPlace} (u:DataW.trod enc Tryz.prog W base (λ_=>true) held fuel 25 [v]=some x) (C:Rows.uptoBulk x.1<=1048576) : ∃ (ao:Option Addr) (n c:Nat) (f:Nat->Qh),v=.slice ao n c/\JV W ao n f/\n<=1048576/\∀ i,i<n->((f i).Ok/\(f i).Ints)/\Qu (f i).key:=by
 rcases open_slice Tryz.underlying25 u with ⟨g,_⟩|⟨a,d,O,m,k,D,P,g,_,R,S,z,K,y⟩
 ·simp at g;exact ⟨none,0,0,λ_=>Qd2,g,λu=>absurd u (Xc8 _),by omega,λi l=>absurd l (Xb7 _)⟩
 simp at g;simp only [if_true] at z;subst z;have I:x.1=.slice ((List.range d).map D) ((List.range (m-d)).map λj=>D (d+j)):=by rw [K]
 rw [I] at C;obtain ⟨_,A⟩:=Qgf C;rw [length_map,length_range] at A;have B:0<d->a.spot=none:=λq=>by obtain ⟨J,h,E⟩:=y 0 (by omega);rw [Qly] at h;obtain ⟨_,M,L⟩:=World.cells?_some h;have F:=L 0 (by omega);rw [getElem?_eq_getElem (by omega)] at F;simpa [Addr.add] using World.cell?_spot F
 have N:Inhabited Qh:=⟨Qd2⟩;obtain ⟨f,t⟩:=choose_lt (α:=Qh) (n:=d) (p:=λi o=>(∀ r,r<8->W.cell? (Xa a.block (a.off+i*8+r))=some (QY o r))/\(o.Ok/\o.Ints)/\Qu o.key) (λi l=>by obtain ⟨J,h,E⟩:=y i (by omega);rw [Qly,QfR (B (by omega))] at h;exact Qte h E);refine ⟨some a,d,m,f,g,λq=>⟨a.block,a.off,?_,?_,λj T=>?_⟩,A,λi l=>(t i l).2⟩
 ·have:=B q;obtain ⟨b,U,s⟩:=a;cases this;rfl
 ·exact World.block_lt_of_cell? W (Xa a.block (a.off+0*8+0)) ((t 0 q).1 0 (by omega))
 obtain ⟨i,r,G,rfl⟩:=Qkf j;rw [QcD _ _ _ G,<- (t i (by omega)).1 r G,Nat.add_assoc]
theorem Qts {x:DataW H × List MemPlace} (z:W.cells? base (Xa b p) 4=some cs) (P:DataW.trod enc Tryz.prog W base (λ_=>true) held fuel 27 cs=some x) (c:Rows.uptoBulk x.1<=1048576) :
  ∃ m:SOp,(∀ r,r<4->W.cell? (Xa b (p+r))=m.cells[r]?)/\m.Ok W:=by
 obtain ⟨_,o,n⟩:=World.cells?_some z
 obtain ⟨A,k,_,B,_,t,a⟩:=DataW.trod_struct Tryz.underlying27 P
 match cs,o,A,t with
 | [v0,v1,v2,v3],_,[y0,y1,y2,y3],_ =>
  have d:=a 0 _ rfl
  have f:=a 1 _ rfl
  have g:=a 2 _ rfl
  have h:=a 3 _ rfl
  simp [QiN,Qpa,Qqd] at d f g h
  have u:x.1=.agg [y0.1,y1.1,y2.1,y3.1]:=by rw [B];rfl
  rw [u] at c
  obtain ⟨C,i,_,_⟩:=DataW.trod_int Tryz.underlying3 d
  obtain ⟨v,j,_,w1⟩:=DataW.trod_int Tryz.underlying3 f
  obtain ⟨D,E,F,L,G,I,s⟩:=QoA g (QiJ c (by simp))
  obtain ⟨pa,l,J,R,K,M,N,y⟩:=Qn0 h (QiJ c (by simp))
  simp at i j
  subst i j G K
  refine ⟨⟨C,v,D,E,F,L,pa,l,J,R⟩,λr O=>?_,⟨I,M,by show l*88<=_;omega,N,y,(QdZ w1).1,(QdZ w1).2,s⟩⟩
  have q:=n r (by omega)
  rw [QdH] at q
  rw [q]
  match r,O with
  | 0,_=>rfl
  | 1,_=>rfl
  | 2,_=>rfl
  | 3,_=>rfl
theorem Qq1 {x:DataW H × List MemPlace} (q:DataW.trod enc Tryz.prog W base (λ_=>true) held fuel 22 [.slice so n c]=some x) (B:Rows.uptoBulk x.1<=1048576) : ∃ t:Nat->SOp,Qd6 W so n t/\n<=1048576:=by
 rcases open_slice Tryz.underlying22 q with ⟨d,_⟩|⟨a,P,R,m,k,D,S,d,_,T,U,y,J,v⟩
 ·simp at d;obtain ⟨rfl,rfl,rfl⟩:=d;exact ⟨λ_=>QfN 0,⟨λq=>absurd q (Xc8 _),λi g=>absurd g (Xb7 _)⟩,by omega⟩
 simp at d;obtain ⟨rfl,rfl,rfl⟩:=d;simp only [if_true] at y;subst y;have F:x.1=.slice ((List.range n).map D) ((List.range (m-n)).map λj=>D (n+j)):=by rw [J]
 rw [F] at B;obtain ⟨G,z⟩:=Qgf B;rw [length_map,length_range] at z;have A:0<n->a.spot=none:=λh=>by obtain ⟨I,f,C⟩:=v 0 (by omega);rw [QjL] at f;obtain ⟨_,N,K⟩:=World.cells?_some f;have E:=K 0 (by omega);rw [getElem?_eq_getElem (by omega)] at E;simpa [Addr.add] using World.cell?_spot E
 have O:Inhabited SOp:=⟨QfN 0⟩;obtain ⟨t,l⟩:=choose_lt (α:=SOp) (n:=n) (p:=λi u=>(∀ r,r<4->W.cell? (Xa a.block (a.off+i*4+r))=u.cells[r]?)/\u.Ok W) (λi g=>by obtain ⟨I,f,C⟩:=v i (by omega);rw [QjL,QfR (A (by omega))] at f;have L:D i ∈ (List.range n).map D:=Xa5.2 ⟨i,Xa6.2 g,rfl⟩;exact Qts f C (Xb6 (QfX L) G));refine ⟨t,⟨λh=>⟨a.block,a.off,?_,?_,λj r o M=>(l j o).1 r M⟩,λj o=>(l j o).2⟩,z⟩
 ·have:=A h;obtain ⟨b,u,s⟩:=a;cases this;rfl
 exact World.block_lt_of_cell? W (Xa a.block (a.off+0*4+0)) ((l 0 h).1 0 (by omega))
end
end Go.Proofs.YtobgcaemnpkbmaaGreat
