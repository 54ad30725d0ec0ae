import Derived.Test.YtobgcaemnpkbmaaGreatDoorC15
import Derived.Carry
namespace Go.Proofs.YtobgcaemnpkbmaaGreatDoor
set_option maxRecDepth 100000
set_option maxHeartbeats 8000000
open Go.RowKit List
def JU (R:List RN) (a:List (Nat × Int)) (b:List TN):Prop:=b.length=a.length/\∀ i,(c:i<a.length)->(d:i<b.length)->Qkq R a[i] b[i]
theorem JU.nil (R:List RN):JU R [] []:=⟨rfl,λ_ a=>absurd a (Nat.not_lt_zero _)⟩
theorem JU.app {R:List RN} {a c:List (Nat × Int)} {g d:List TN} (h:JU R a g) (f:JU R c d):JU R (a++c) (g++d):=by
 refine ⟨by rw [length_append,length_append,h.1,f.1],λi j k=>?_⟩;by_cases b:i<a.length
 ·rw [getElem_append_left b,getElem_append_left (by rw [h.1];exact b)];exact h.2 i b _
 have l:=h.1;rw [length_append] at j k;rw [getElem_append_right (by omega),getElem_append_right (by omega)];have:=f.2 (i-a.length) (by omega) (by omega);simp only [l];exact this
theorem JU.one {R:List RN} {x:Nat × Int} {n:TN} (h:Qkq R x n):JU R [x] [n]:=⟨rfl,λi a b=>by
 have:i=0:=by simpa using a
 subst this;exact h⟩
structure ZN (B:Nat) (w:World) (pv:Value) (Ns:List (Value × List TN)):Prop where
 row:w.ownsRow B 41 1 pv Ns.length (Ns.map (·.1))
 tell:∀ p,p ∈ Ns->ZB B w p.1 p.2
 off:∀ p,p ∈ Ns->(p.1.ownBlock=none \/ p.1.ownBlock≠pv.ownBlock)/\∀ n,n ∈ p.2->n.av.ownBlock=none \/ n.av.ownBlock≠pv.ownBlock
 far:(QG Ns).Pairwise λm n=>n.av.ownBlock=none \/ n.av.ownBlock≠m.av.ownBlock
theorem ZN.nil (a:Nat) (w:World):ZN a w Xv []:=⟨World.ownsRow_nil _ _ _ _,λ_ h=>by simp at h,λ_ h=>by simp at h,List.Pairwise.nil⟩
theorem ZN.below {a:Nat} {w w':World} {pv:Value} {Ns:List (Value × List TN)} (h:ZN a w pv Ns) (hb:Xb w w'):ZN a w' pv Ns := ⟨Zi h.row hb,λp b=>(h.tell p b).below hb,h.off,h.far⟩
theorem ZB.kept {d:Nat} {w w':World} {q:Value} {b:List TN} (h:ZB d w q b) {row:Option Nat} (c:w.grownBy w' row) (f:q.ownBlock=none \/ q.ownBlock≠row) (g:∀ n,n ∈ b->n.av.ownBlock=none \/ n.av.ownBlock≠row):ZB d w' q b := ⟨h.row.kept c f,λn a=>⟨(h.node n a).an,(h.node n a).tag,(h.node n a).text,(h.node n a).row.kept c (g n a),(h.node n a).size,(h.node n a).ne⟩,h.far⟩
theorem ZB.ge {d b:Nat} {w:World} {q:Value} {f:List TN} (h:ZB d w q f) (c:b<=d):ZB b w q f := ⟨Qbv h.row c,λn a=>⟨(h.node n a).an,(h.node n a).tag,(h.node n a).text,Qbv (h.node n a).row c,(h.node n a).size,(h.node n a).ne⟩,h.far⟩
theorem ZN.snoc {l:Nat} {w w2 f r:World} {pv o q:Value} {Ns:List (Value × List TN)} {j:List TN} (h:ZN l w pv Ns) (D:l<=w.heap.size) (z:Xb w w2) (g:ZB w.heap.size w2 q j) (k:Xb w2 f) (d:Zl f r pv o) (A:r.ownsRow l 41 1 o (Ns.length+1) (Ns.map (·.1)++[q])):ZN l r o (Ns++[(q,j)]):=by
 have B:∀ b,pv.ownBlock=some b->b<w.heap.size:=λb e=>(h.row.lt b e).2;have y:∀ {v:Value},(∀ b,v.ownBlock=some b->w.heap.size<=b/\b<w2.heap.size)->(v.ownBlock=none \/ v.ownBlock≠pv.ownBlock)/\v.ownBlock≠some f.heap.size:=fun {v} i=>by
  cases C:v.ownBlock with
  | none=>exact ⟨.inl rfl,by simp⟩
  | some b =>
   have:=i b C;refine ⟨.inr λe=>?_,λe=>?_⟩
   ·have:=B b e.symm;omega
   have e:=Option.some.inj e;have:=k.size;omega
 have x:∀ {v:Value},(∀ b,v.ownBlock=some b->b<w.heap.size)->v.ownBlock≠some f.heap.size:=fun {v} i e=>by have:=i _ e;have:=z.size;have:=k.size;omega
 have s:=y (v:=q) λb e=>g.row.lt b e;have t:∀ n,n ∈ j->(n.av.ownBlock=none \/ n.av.ownBlock≠pv.ownBlock)/\n.av.ownBlock≠some f.heap.size:=λn c=>y λb e=>(g.node n c).row.lt b e;refine ⟨by rw [length_append,map_append];exact A,λp a=>?_,λp a=>?_,?_⟩
 ·rcases mem_append.1 a with a|a
  ·exact (((h.tell p a).below z).below k).kept d.by (h.off p a).1 (h.off p a).2
  rw [mem_singleton.1 a];exact ((g.ge D).below k).kept d.by s.1 λn c=>(t n c).1
 ·rcases mem_append.1 a with a|a
  ·exact ⟨QbW d (h.off p a).1 (x λb e=>((h.tell p a).row.lt b e).2),λn c=>QbW d ((h.off p a).2 n c) (x λb e=>(((h.tell p a).node n c).row.lt b e).2)⟩
  rw [mem_singleton.1 a];exact ⟨QbW d s.1 s.2,λn c=>QbW d (t n c).1 (t n c).2⟩
 have e:QG (Ns++[(q,j)])=QG Ns++j:=by unfold QG;simp
 rw [e,pairwise_append];refine ⟨h.far,g.far,λm u n c=>?_⟩;obtain ⟨p,a,u⟩:=mem_flatMap.1 u;cases i:n.av.ownBlock with| none=>exact .inl rfl| some b =>right;intro e;have E:=((g.node n c).row.lt b i).1;have F:=(((h.tell p a).node m u).row.lt b e.symm).2;omega
theorem Qfw:(Tryz.prog.info? 41).map (λi=>(i.zero,i.size,i.bytes))=some (some Xv,1,24):=by kernel_rfl
def Qdd (R:List RN) (b:List (Nat × Int)) (c:Nat) (w:World) (e:Ending) (w':World):Prop:=∃ q a,e=.returned q/\ZB c w' q a/\JU R b a/\Xb w w'
theorem Qjw (g k:Nat):((Xa g 0):Addr).add k=(Xa g k):=by
 by_cases a:k=0
 ·subst a;simp [Addr.add]
 simp [Addr.add,a]
theorem Qgl {w:World} {f n c size:Nat} {e:TypeId} {ao:Option Addr} {xs:List Value} (h:w.ownsRow f e size (.slice ao n c) n xs) {x:Addr} (a:ao=some x) {k:Nat} {u:Value} (b:xs[k]?=some u):w.cell? (x.add k)=some u:=by
 have d:=(List.getElem?_eq_some_iff.1 b).1;rw [h.1] at d;rcases h.2 with ⟨e,_⟩|⟨g,cap,i,e,_⟩
 ·rw [a] at e;cases (Value.slice.inj e).1
 rw [a] at e;have e:=Option.some.inj (Value.slice.inj e).1;subst e;rw [a] at h;have:=h.cellAt k d;rw [b] at this;rw [Qjw];exact this
theorem QoI (bg:Qo) (nb:Int->Nat) (bh:Nat) (bi:Option Nat) (q:Nat) (R:List RN) (last:Int) (f a:Nat) (d:Int) (w:World) (h:Qi bg nb bh bi w q R last) (a0:a<R.length) (a7:∀ n,n ∈ R->0<n.id) (bJ:0<=d) (bK:d<=1000000) (a8:(QF R (f+1) a d).length<=1000000) (ih:∀ i,(l:i<(Qy R R[a].id).length)->∀ w1,Xb w w1->Xl 64 #[Xp (nb (Qj R (Qy R R[a].id)[i])),Xi (d+1)] w1 (Qdd R (QF R f (Qy R R[a].id)[i] (d+1)) w1.heap.size w1)) : Xl 64 #[Xp (nb R[a].id),Xi d] w (Qdd R (QF R (f+1) a d) w.heap.size w):=by
 obtain ⟨bj,l,aS,aT,aU⟩:=info_parts Qfw;obtain ⟨bk,bl,aV,aW,aX⟩:=info_parts Qdc;have a1:R[a] ∈ R:=getElem_mem a0;obtain ⟨bU,bV,m⟩:=h.node _ a1;have ap:=a7 _ a1;have ad:(Qy R R[a].id).length=(Qe R R[a].id).length:=by rw [<- Qck R (by omega),length_map]
 have a9:∀ i,(l:i<(Qy R R[a].id).length)->(Qe R R[a].id)[i]?=some (Qj R (Qy R R[a].id)[i]):=λi l=>by rw [<- Qck R (by omega),getElem?_map,getElem?_eq_getElem l];rfl
 obtain ⟨bm,bW,a6⟩:=h.kids_read;obtain ⟨bn,a5⟩:=a6 _ a1;have aq:=Qf m.blk 1 (Xi R[a].key) rfl;have ar:=Qf m.blk 2 (.string R[a].tag) rfl;have au:=Qf m.blk 3 (.string R[a].text) rfl;obtain ⟨ao,ac,rfl⟩:=Qz m.arow;have av:=Qf m.blk 4 (.slice ao R[a].ats.length ac) rfl;have aw:QF R (f+1) a d=(a,d)::(Qy R R[a].id).flatMap λk=>QF R f k (d+1):=by rw [QF,QS a0]
 have I:=m.lt;have aJ:Hid (∀ i,(l:i<(Qy R R[a].id).length)->∀ wr,Xb w wr->∃ g,bm R[a].id=some (Xa g 0)/\wr.cell? (Xa g i)=some (Xp (nb (Qj R (Qy R R[a].id)[i])))):=Qa λi l wr hb=>by obtain ⟨g,e,aY,bo⟩:=a5 i _ (a9 i l);exact ⟨g,e,(Xh hb g i (h.low g (by rw [aY];rfl))).trans bo⟩
 have aZ:=Qa ih;have b0:Hid (w.ownsRow 0 96 2 (.slice ao R[a].ats.length ac) R[a].ats.length (QM R[a].ats)):=Qa m.arow;have b1:=Qa m.size;have aK:=Qa m.tag;have aG:=Qa m.text;have bH:=m.few;have bF:=QdU R R[a].id;have bL:=h.few;have ae:=Qa ad;have ax:=Qa aw;have aL:=Qa a8;clear a6 a5 m h ih a9 ad aw a7 a8;generalize b2:nb R[a].id=c at *;generalize b3:(Qe R R[a].id).length=B at *;have bI:B<=800:=by omega
 generalize aa:R[a].ats=ats at *;have aM:=Qa aa;generalize af:ats.length=v at *;have b4:=Qa af;clear b2 b3 af aa;go_enter Tryz.func64,Tryz.ntmps64;go_wp2;go_loopw [5,7,14] (λb5 _ i wr=>∃ (j:Nat) (pv:Value) (Ns:List (Value × List TN)),j<=B/\pv=b5/\i=Xi j/\Hid (Ns.length=j)/\Hid (ZN w.heap.size wr pv Ns)/\Hid (JU R (((Qy R R[a].id).take j).flatMap λk=>QF R f k (d+1)) (QG Ns))/\Hid (Xb w wr)) (λ_ _ i _=>B-(intOf i).toNat);·exact ⟨0,_,[],Nat.zero_le _,rfl,rfl,Qa rfl,Qa (ZN.nil _ _),Qa (JU.nil _),Qa (Below.refl _ _)⟩
 case round =>
  obtain ⟨j,pv,Ns,bM,rfl,rfl,y,t,H,o⟩:=hrel;by_cases bN:j<B
  ·have S:j<(Qy R R[a].id).length:=by have:=ae.out;omega
   obtain ⟨g,bp,bX⟩:=aJ.out j S wr o.out;have bq:=Qa (aZ.out j S wr o.out);have bO:(j:Int)<(B:Int):=by omega
   rw [bp];have J:=o.out.size;have aN:Hid (∀ w2 a2,Xb wr w2->Xb w2 a2->a2.ownsRow w.heap.size 41 1 pv j (Ns.map (·.1))):=Qa λw2 a2 D br=>by have:=Zi (Zi t.out.row D) br;rwa [y.out] at this
   generalize b6:Qj R (Qy R R[a].id)[j]=bY at *;clear b6;go_wp2_with (first|(go_at_call 64;refine (Qb bq).mono ?_;rintro e w2 ⟨bZ,A,rfl,T,ag,U⟩;obtain ⟨M,N,rfl⟩:=Qz T.row;have b7:=Qa T;have b8:=Qa ag;have V:=Qa U;have bP:=U.size;clear T ag U)|(at_builtin;refine Jf _ rfl (.tmp 18) (.tmp 23) 78 rfl w.heap.size 41 bj _ 1 24 Tryz.underlying78 l aS aT aU rfl pv j (Ns.map (·.1)) rfl (Qb aN _ _ (Qb V) Xd) (some (Xa w2.heap.size 0)) 1 1 [.slice M A.length N] rfl (by simp) rfl (Z9 _ _ _) (by simp [Value.oneCell']) (by omega) (by omega) (by simp;omega) ?_;intro b9 E K s _));have ba:Xb w2 (w2.alloc (.cells #[.slice M A.length N] 41)):=Xd;refine ⟨⟨j+1,b9,Ns++[(.slice M A.length N,A)],by omega,rfl,by go_num,Qa (by simp [y.out]),Qa (t.out.snoc J V.out b7.out ba s.out (by rw [y.out];exact K.out)),Qa ?_,Qa ?_⟩,by simp [intOf];omega⟩
   ·have r:QG (Ns++[(Value.slice M A.length N,A)])=QG Ns++A:=by unfold QG;simp
    rw [take_succ_eq_append_getElem S,flatMap_append,r];refine H.out.app ?_;have:=b8.out;simpa using this
   have aO:Below w.heap.size wr w2:=V.out.mono J;exact ((o.out.trans aO).alloc (by omega) _).grown s.out.by (by simp;omega) (λb hb=>(t.out.row.lt b hb).1)
  have bb:j=B:=by omega
  subst bb;have aP:(Qy R R[a].id).take j=Qy R R[a].id:=by rw [<- ae.out,take_length]
  rw [aP] at H;have ay:=(Xh o.out c 1 I).trans aq;have az:=(Xh o.out c 2 I).trans ar;have aA:=(Xh o.out c 3 I).trans au;have bs:=(Xh o.out c 4 I).trans av;have J:=o.out.size;have P:Hid (wr.ownsRow 0 96 2 (.slice ao v ac) v (QM ats)):=Qa (Zi b0.out o.out);have aH:Hid (ao=none->v=0/\ac=0):=Qa λe=>by
   rcases P.out.2 with ⟨r,aB⟩|⟨g,cap,bc,r,_⟩
   ·exact ⟨aB,(Value.slice.inj r).2.2⟩
   rw [e] at r;cases (Value.slice.inj r).1
  have aI:Hid (∀ x,ao=some x->∀ k u,(QM ats)[k]?=some u->wr.cell? (x.add k)=some u):=Qa λx a3 k u bt=>Qgl P.out a3 bt;have bu:Hid ((QM ats).length=v*2):=Qa P.out.1;have aQ:Hid (∀ u ∈ QM ats,u.oneCell'=true):=Qa (QgN ats);clear aq ar au av bn;go_wp2_with (first|(at_builtin;refine Jf _ rfl (.const Xv) (.tmp 29) 45 rfl wr.heap.size 96 bk _ 2 32 Tryz.underlying45 bl aV aW aX rfl Xv 0 [] rfl (World.ownsRow_nil _ _ _ _) ao v ac (QM ats) rfl (Qb aH) (Qb bu) (Qb aI) (Qb aQ) (by omega) (by omega) (by omega) ?_;intro bQ E K s _));have C:=K.out;rw [Nat.zero_add,nil_append] at C;obtain ⟨W,X,rfl⟩:=Qz C;have z:Xb wr E:=⟨s.out.by.os,s.out.by.tape,s.out.by.output,s.out.by.size,λb hb=>s.out.by.block b hb (by simp [Value.ownBlock])⟩;have bR:=z.size;have O:=t.out.row;rw [y.out] at O;obtain ⟨aC,aD,rfl⟩:=Qz O;have ab:Xb w E:=o.out.trans (z.mono J);have bv:Hid (∀ F,Xb E F->Xl 73 #[.agg #[Xi d,.string R[a].tag,Xi R[a].key,.slice W v X,.string R[a].text],.slice aC j aD] F λe w'=>Qdd R (QF R (f+1) a d) w.heap.size w e w'/\Xb F w'):=Qa λF L=>by
   have bS:=L.size;have Y:=(t.out.below z).below L;have bd:=Zi C L;have bG:(QG Ns).length+1<=1000000:=by have aE:=H.out.1;have D:=aL.out;rw [ax.out,length_cons,<- aE] at D;exact D
   refine (QfF w.heap.size F ⟨d,R[a].tag,R[a].key,R[a].text,ats,W,v,X⟩ aC aD Ns j y.out (by omega) (λi l=>?_) (λx a3=>?_) (λi l=>Y.tell _ (getElem_mem l)) ⟨b4.out.symm,aK.out,aG.out,Qbv bd (by omega),b1.out,?_⟩ ?_ (by omega) (by omega)).mono ?_
   ·have G:=Y.row;have aR:(Ns.map (·.1))[i]?=some Ns[i].1:=by rw [getElem?_map,getElem?_eq_getElem l];rfl
    rw [y.out] at G;rcases G.2 with ⟨e,c0⟩|⟨g,cap,bc,e,_⟩
    ·have:=y.out;omega
    have r:=(Value.slice.inj e).1;refine ⟨g,r,?_⟩;have:=Qgl G r aR;rwa [Qjw] at this
   ·have G:=Y.row;subst a3;exact (G.lt x.block rfl).2
   ·cases (TN.av ⟨d,R[a].tag,R[a].key,R[a].text,ats,W,v,X⟩).ownBlock with| none=>exact .inl rfl| some b=>exact .inr (by simp [Value.ownBlock])
   ·rw [pairwise_cons];refine ⟨λn a4=>?_,t.out.far⟩;obtain ⟨p,ap,a4⟩:=mem_flatMap.1 a4;cases bw:n.av.ownBlock with| none=>exact .inl rfl| some b =>right;intro e;have aE:=(((t.out.tell p ap).node n a4).row.lt b bw).2;have D:=(C.lt b e.symm).1;omega
   rintro e w' ⟨bx,rfl,bz,ah,_⟩;refine ⟨⟨bx,_,rfl,bz,?_,(ab.trans (L.mono (by omega))).trans (ah.mono (by omega))⟩,ah⟩;rw [ax.out];exact (JU.one ⟨a0,rfl,rfl,rfl,rfl,aM.out.symm⟩).app H.out
  have r:=(Xh z c 1 (by show c<_;omega)).trans ay;have aB:=(Xh z c 2 (by show c<_;omega)).trans az;have c1:=(Xh z c 3 (by show c<_;omega)).trans aA;have bT:c<E.heap.size:=by omega
  clear O ab z C K s t ay az aA bs;generalize R[a].key=bA at *;generalize R[a].tag=bB at *;generalize R[a].text=bC at *
  go_region_held3 (λw'=>w'.cell? (Xa c 1)=some (Xi bA)/\w'.cell? (Xa c 2)=some (.string bB)/\w'.cell? (Xa c 3)=some (.string bC))
    (first
      | go_keep
      | (go_split_ands
         refine ⟨?_,?_,?_⟩
         all_goals (rw [ai.cell (by simp;omega)];assumption)))
    (first|(go_at_call 73;refine (Qb bv _ ((Below.refl _ _).drew)).mono ?_;rintro e bD ⟨⟨aF,bE,rfl,aj,ak,al⟩,ai⟩))
  have bf:Hid (Qdd R (QF R (f+1) a d) w.heap.size w (.returned aF) bD):=Qa ⟨aF,bE,rfl,aj,ak,al⟩;clear aj ak al ai;go_wp2;go_ret;exact bf.out
theorem QrA (j:Qo) (nb:Int->Nat) (k:Nat) (l:Option Nat) (q:Nat) (R:List RN) (last:Int) (m:Qp R) (b:∃ rk,Up R rk):∀ (f a:Nat) (d:Int) (w:World),Qi j nb k l w q R last->ZP R f a->0<=d->d+f<=1000000 -> Xl 64 #[Xp (nb (Qj R a)),Xi d] w (Qdd R (QF R f a d) w.heap.size w):=by
 obtain ⟨rk,b⟩:=b;intro f;induction f with
 | zero=>intro a d w _ h;exact h.elim
 | succ f ih =>intro a d w h g o t;have r:=Qmy (d:=d) b m g;have s:=h.few;obtain ⟨c,n⟩:=g;rw [QS c];rw [QS c] at n;exact QoI j nb k l q R last f a d w h c m.pos o (by omega) (by omega) λi p w1 hb=>ih _ (d+1) w1 (h.below hb) (n _ (getElem_mem p)) (by omega) (by omega)
theorem Qlk (c:Qo) (nb:Int->Nat) (d:Nat) (w:World) (q:Nat) (R:List RN) (last:Int) (h:Qi c nb d (some (nb 1)) w q R last) (a:QE R last) (r:Nat) (f:r<R.length) (b:R[r].id=1) : Xl 37 #[Xp q] w (Qdd R (QF R R.length r 0) w.heap.size w):=by
 have n:=Qf h.blk 0 (Xp (nb 1)) rfl;have g:Hid (Xl 64 #[Xp (nb 1),Xi 0] w (Qdd R (QF R R.length r 0) w.heap.size w)):=by obtain ⟨rk,i⟩:=a.up;have m:=h.few;have:=QrA c nb d _ q R last a.ids a.up R.length r 0 w h (QaA i f) (by omega) (by omega);rw [QS f,b] at this;exact Qa this
 clear h a b;go_enter Tryz.func37,Tryz.ntmps37;go_wp2_with (first|(go_at_call 64;refine (Qb g).mono ?_;rintro e w2 ⟨j,k,rfl,l⟩));go_ret;exact ⟨j,k,rfl,l⟩
def ZQ (L:Nat->Qd) (i:Nat):RN:={ id:=(i:Int)+1,par:=Jv L i,tag:=(L i).t,key:=(L i).k,text:=(L i).x,ats:=Zn (L i),ao:=none,an:=0,ac:=0 }
def QC (L:Nat->Qd) (k:Nat):List RN:=(List.range k).map (ZQ L)
theorem J5 (L:Nat->Qd) (k:Nat):(QC L k).length=k:=by unfold QC;simp
theorem Qou (L:Nat->Qd) (k:Nat):QC L (k+1)=QC L k++[ZQ L k]:=by unfold QC;rw [range_succ,map_append];rfl
theorem Qax {L:Nat->Qd} {k i:Nat} (h:i<(QC L k).length):(QC L k)[i]=ZQ L i:=by
 have a:(QC L k)[i]?=some (ZQ L i):=by unfold QC;rw [getElem?_map,getElem?_range (by rwa [J5] at h)];rfl
 rw [getElem?_eq_getElem h] at a;exact Option.some.inj a
theorem QgC (L:Nat->Qd) (i:Nat):∀ j,-1<=ZF L i j/\ZF L i j<(j:Int):=by
 intro j;induction j with
 | zero=>exact ⟨Int.le_refl _,by show (-1:Int)<0;omega⟩
 | succ j ih =>
  rw [ZF];split
  ·exact ⟨by omega,by omega⟩
  exact ⟨ih.1,by omega⟩
theorem Qe8 (L:Nat->Qd) (k:Nat):Qp (QC L k) where
 pos:=λn a=>by
  obtain ⟨i,b,rfl⟩:=getElem_of_mem a
  rw [Qax]
  show (0:Int)<(i:Int)+1
  omega
 inj:=λi j b c e=>by
  rw [Qax,Qax] at e
  have e:(i:Int)+1=(j:Int)+1:=e
  omega
theorem QhF (L:Nat->Qd) (k:Nat):∀ n,n ∈ QC L k->n.id<=(k:Int)/\0<=n.par/\n.par<=(k:Int):=λn a=>by
 obtain ⟨i,b,rfl⟩:=getElem_of_mem a;rw [Qax];rw [J5] at b;have c:=QgC L i i;refine ⟨by show (i:Int)+1<=k;omega,?_,?_⟩
 ·show 0<=Jv L i;unfold Jv;split<;>omega
 show Jv L i<=k;unfold Jv;split<;>omega
theorem Qu9 (R:List RN) (x n:RN):∀ k,k<=R.length->JO (R++[x]) n R.length 0 k=R.take k:=by
 intro k;induction k with
 | zero=>intro _;rfl
 | succ k ih =>
  intro b;have a:k<R.length:=b;have c:((R++[x]).drop k).take 1=[R[k]]:=by rw [drop_append_of_le_length (by omega),drop_eq_getElem_cons a];rfl
  rw [JO,ih (by omega),if_neg (by simp),if_neg (by omega),c,append_nil,Qc1 a]
theorem QrG (R:List RN) (x n:RN):Q6 (R++[x]) n R.length 0=R++[n]:=by
 unfold Q6;have e:(R++[x]).length=R.length+1:=by simp
 rw [e,JO,Qu9 R x n _ (Nat.le_refl _),if_neg (by simp),if_pos rfl,if_pos rfl,take_length];simp
def Qbn (nb:Int->Nat) (L:Nat->Qd) (e:Int):Nat->Value
 | 0=>.pointer none
 | j+1=>if (L j).d=e then Xp (nb ((j:Int)+1)) else Qbn nb L e j
theorem Qqy {nb a:Int->Nat} {L:Nat->Qd} {e:Int}:∀ {k:Nat},(∀ i:Int,i<=(k:Int)->a i=nb i)->Qbn a L e k=Qbn nb L e k:=by
 intro k;induction k with
 | zero=>intro _;rfl
 | succ k ih =>intro h;rw [Qbn,Qbn,h _ (by omega),ih λi b=>h i (by omega)]
theorem Qnz {nb:Int->Nat} {L:Nat->Qd} {i:Nat}:∀ {k:Nat},0<=ZF L i k->Qbn nb L ((L i).d-1) k=Xp (nb (ZF L i k+1)):=by
 intro k;induction k with
 | zero=>intro h;exact absurd h (by show ¬ (0:Int)<=-1;omega)
 | succ k ih =>
  rw [ZF,Qbn];by_cases e:(L k).d=(L i).d-1
  ·rw [if_pos e,if_pos e];intro _;rfl
  rw [if_neg e,if_neg e];exact ih
theorem Qx.setCell (w:World) (a:Addr) (v:Value):Qx (λb=>b=a.block) w (w.setCell a v) := ⟨rfl,rfl,rfl,by rw [ZL];exact Nat.le_refl _,λb _ c=>Below.heap_setCell _ _ _ _ c⟩
theorem Qi.rooted {c:Qo} {nb:Int->Nat} {a:Nat} {g:Option Nat} {w:World} {q:Nat} {R:List RN} {last:Int} (h:Qi c nb a g w q R last) (i:Qp R) (b:Nat):Qi c nb a (some b) (w.setCell (Xa q 0) (Xp b)) q R last where
 blk:=Qb4 h.blk _
 role:=h.role
 mrole:=h.mrole
 map:=h.map.heap (Below.heap_setCell _ _ _ _ λe=>by
  have e:a=q:=e
  have d:=h.mrole
  rw [e,h.role] at d
  have:=(Prod.mk.inj (Option.some.inj d)).2
  omega)
 node:=λn f=>by
  obtain ⟨k,l,m⟩:=h.node n f
  refine ⟨k,l,m.kept (λb j e=>Below.heap_setCell _ _ _ _ λe'=>?_) (λ_ _=>rfl) rfl⟩
  have e':b=q:=e'
  rw [e',h.role] at e
  have:=(Prod.mk.inj (Option.some.inj e)).1
  have:=i.pos n f
  omega
 low:=λb e=>by rw [ZL];exact h.low b e
 few:=h.few
def QfX (L:Nat->Qd) (w:World) (d q a k:Nat) (wr:World):Prop :=
 ∃ c nb,Qi c nb d (if k=0 then none else some (nb 1)) wr q (QC L k) k/\(∀ b,(c b).isSome=true->w.heap.size<=b)/\c a=none/\a<wr.heap.size/\(∀ e:Nat,e<12->wr.cell? (Xa a e)=some (Qbn nb L e k))/\(∀ e,wr.frozen? (Xa a e)=false)/\w.heap.size<=a/\Xb w wr
structure QdY (L:Nat->Qd) (n:Nat):Prop where
 zero:(L 0).d=0
 deep:∀ i,i<n->0<i->1<=(L i).d/\(L i).d<=11
 par:∀ i,i<n->0<i->0<=ZF L i i
 an:∀ i,i<n->(L i).an<=5
 rise:∀ i,i<n->Zw (Zn (L i))
 tag:∀ i,i<n->(L i).t.size<=1000000
 text:∀ i,i<n->(L i).x.size<=1000000
 att:∀ i,i<n->∀ x,x ∈ Zn (L i)->x.1.size<=1000000/\x.2.size<=1000000
theorem Ql3 {d ρ':Qo} {w wr w2:World} (hb:Xb w wr) (a:QV d ρ' wr w2) (f:∀ b,(d b).isSome=true->w.heap.size<=b):Xb w w2 := ⟨a.1.os.trans hb.os,a.1.tape.trans hb.tape,a.1.output.trans hb.output,Nat.le_trans hb.size a.1.size,λb c=>(a.1.block b (Nat.lt_of_lt_of_le c hb.size) λe=>by have:=f b e;omega).trans (hb.block b c)⟩
theorem Quj (w:World) (a b c:Obj):(((w.alloc a).alloc b).alloc c).heap[w.heap.size]?=some a/\(((w.alloc a).alloc b).alloc c).heap[w.heap.size+1]?=some b/\(((w.alloc a).alloc b).alloc c).heap[w.heap.size+1+1]?=some c:=by
 have h:(w.alloc a).heap.size=w.heap.size+1:=by simp
 have i:((w.alloc a).alloc b).heap.size=w.heap.size+1+1:=by simp
 have j:=heap_alloc_new w a;have d:=heap_alloc_new (w.alloc a) b;have f:=heap_alloc_new ((w.alloc a).alloc b) c;rw [h] at d;rw [i] at f;have g:=(Below.refl ((w.alloc a).alloc b).heap.size ((w.alloc a).alloc b)).alloc (Nat.le_refl _) c;have k:=(Below.refl (w.alloc a).heap.size (w.alloc a)).alloc (Nat.le_refl _) b;exact ⟨(g.block _ (by omega)).trans ((k.block _ (by omega)).trans j),(g.block _ (by omega)).trans d,f⟩
def Qd6 (L:Nat->Qd) (w:World) (g q a k:Nat) (nb:Int->Nat) (x:RN) (c:World):Prop :=
 ∃ d f,Qi d nb g f c q (QC L k++[x]) ((k:Int)+1)/\(k≠0->f=some (nb 1))/\(∀ b,(d b).isSome=true->w.heap.size<=b)/\d a=none/\a<c.heap.size/\(∀ e:Nat,e<12->c.cell? (Xa a e)=some (Qbn nb L e (k+1)))/\(∀ e,c.frozen? (Xa a e)=false)/\w.heap.size<=a/\Xb w c
theorem Qd6.of {L:Nat->Qd} {w wr w2 c:World} {y q a k:Nat} {o ρ':Qo} {nb g:Int->Nat} {x:RN} {e:Nat} (I:Qi ρ' g y (if k=0 then none else some (nb 1)) c q (QC L k++[x]) ((k:Int)+1)) (s:∀ b,(o b).isSome=true->w.heap.size<=b) (r:o a=none) (C:a<wr.heap.size) (B:∀ e:Nat,e<12->wr.cell? (Xa a e)=some (Qbn nb L e k)) (D:∀ e,wr.frozen? (Xa a e)=false) (F:w.heap.size<=a) (hb:Xb w wr) (m:Xb wr w2) (j:QV o ρ' w2 c) (t:∀ i,i≠(k:Int)+1->g i=nb i) (z:(L k).d=(e:Int)) (N:e<12):Qd6 L w y q a k g x (c.setCell (Xa a e) (Xp (g ((k:Int)+1)))):=by
 have O:=m.size;have P:=hb.size;have R:=j.1.size;have u:c.heap[a]?=wr.heap[a]?:=(j.1.block a (by omega) (by rw [r];simp)).trans (m.block a C);have E:∀ b,(ρ' b).isSome=true->w.heap.size<=b:=λb l=>by
  rcases j.2.2 b l with h|h
  ·exact s b h
  omega
 have p:ρ' a=none:=by
  cases J:ρ' a with
  | none=>rfl
  | some T =>
   rcases j.2.2 a (by rw [J];rfl) with h|h
   ·rw [r] at h;cases h
   omega
 have f:Xb w c:=Ql3 (hb.trans (m.mono hb.size)) j s;have K:=Qx.setCell c (Xa a e) (Xp (g ((k:Int)+1)));refine ⟨ρ',_,I.touch K (λb l n=>?_),λM=>?_,E,p,by rw [ZL];omega,λe' G=>?_,λe'=>?_,F,?_⟩
 ·have n:b=a:=n;rw [n,p] at l;cases l
 ·rw [if_neg M,t 1 (by omega)]
 ·have A:Xc c a e' (Qbn nb L e' k):=(World.cell?_of_block u).trans (B e' G);rw [Qbn];by_cases v:e'=e
  ·subst v;rw [if_pos z];exact World.cell?_setCell_same _ _ _ A
  rw [if_neg (by rw [z];omega),World.cell?_setCell_other _ _ _ _ (λh=>v (by cases h;rfl)),A,Qqy λi S=>t i (by omega)]
 ·rw [World.frozen?_setCell,Qgd u];exact D e'
 exact ⟨f.os,f.tape,f.output,by rw [ZL];exact f.size,λb H=>(Below.heap_setCell _ _ _ _ λe=>by have e:b=a:=e;omega).trans (f.block b H)⟩
theorem Qpm {L:Nat->Qd} {w f:World} {g q a:Nat} {nb:Int->Nat} (m:q≠a) (h:Qd6 L w g q a 0 nb { ZQ L 0 with par:=0 } f):QfX L w g q a 1 (f.setCell (Xa q 0) (Xp (nb 1))):=by
 obtain ⟨p,u,c,_,d,j,k,i,l,n,hb⟩:=h;have r:QC L 0++[{ ZQ L 0 with par:=0 }]=QC L 1:=rfl;rw [r] at c;have t:=d q (by rw [c.role];rfl);refine ⟨p,nb,?_,d,j,by rw [ZL];exact k,λe s=>?_,λe=>?_,n,?_⟩
 ·rw [if_neg (by omega)];exact c.rooted (Qe8 L 1) (nb 1)
 ·rw [World.cell?_setCell_other _ _ _ _ (λh=>m (by cases h;rfl))];exact i e s
 ·rw [World.frozen?_setCell];exact l e
 exact ⟨hb.os,hb.tape,hb.output,by rw [ZL];exact hb.size,λb o=>(Below.heap_setCell _ _ _ _ λe=>by have e:b=q:=e;omega).trans (hb.block b o)⟩
theorem QoV {L:Nat->Qd} {w i:World} {j q a k:Nat} {nb:Int->Nat} (p:k≠0) (K:0<=ZF L k k) (h:Qd6 L w j q a k nb { ZQ L k with par:=0 } i) : Xl 61 #[Xp (nb (ZF L k k+1)),Xp (nb ((k:Int)+1)),.pointer none] i λe r=>e=.returned (.tuple #[])/\QfX L w j q a (k+1) r:=by
 obtain ⟨B,M,C,g,n,d,f,u,v,y,hb⟩:=h;have g:=g p;subst g;have J:=(QgC L k k).2;have N:(QC L k++[{ ZQ L k with par:=0 }]).length=k+1:=by rw [length_append,J5];rfl
 have z:k<(QC L k++[{ ZQ L k with par:=0 }]).length:=by omega
 have A:(ZF L k k).toNat<(QC L k++[{ ZQ L k with par:=0 }]).length:=by omega
 have l:(QC L k++[{ ZQ L k with par:=0 }])[k]={ ZQ L k with par:=0 }:=by rw [getElem_append_right (by rw [J5];exact Nat.le_refl _)];simp [J5]
 have s:(QC L k++[{ ZQ L k with par:=0 }])[(ZF L k k).toNat].id=ZF L k k+1:=by rw [getElem_append_left (by rw [J5];omega),Qax];show (((ZF L k k).toNat:Nat):Int)+1=_;omega
 have x:Qp (QC L k++[{ ZQ L k with par:=0 }]):=Qmv (Qe8 L k) (by show (0:Int)<(k:Int)+1;omega) λm D=>by have:=(QhF L k m D).1;show m.id<(k:Int)+1;omega
 have t:=Qja B nb j _ i q _ _ C x k (ZF L k k).toNat z A (by rw [s,l];show ZF L k k+1≠(k:Int)+1;omega) (by rw [l]);rw [s,l] at t;have E:Q6 (QC L k++[{ ZQ L k with par:=0 }]) { ZQ L k with par:=ZF L k k+1 } k 0=QC L (k+1):=by
  have:=QrG (QC L k) { ZQ L k with par:=0 } { ZQ L k with par:=ZF L k k+1 };rw [J5] at this;rw [this,Qou];have:Jv L k=ZF L k k+1:=by unfold Jv;rw [if_neg p]
  unfold ZQ;rw [this]
 refine t.mono ?_;rintro e r ⟨rfl,ρ',c,F⟩;refine ⟨rfl,ρ',nb,?_,λb G=>?_,?_,Nat.lt_of_lt_of_le f c.1.size,λe H=>?_,λe=>?_,y,Ql3 hb c n⟩
 ·rw [if_neg (by omega)];have o:=F;rw [show ({ ({ ZQ L k with par:=0 }:RN) with par:=ZF L k k+1 }:RN)={ ZQ L k with par:=ZF L k k+1 } from rfl,E] at o;exact o
 ·rcases c.2.2 b G with h|h
  ·exact n b h
  have:=hb.size;omega
 ·cases I:ρ' a with
  | none=>rfl
  | some O =>
   rcases c.2.2 a (by rw [I];rfl) with h|h
   ·rw [d] at h;cases h
   omega
 ·rw [World.cell?_of_block (c.1.block a f (by rw [d];simp))];exact u e H
 rw [Qgd (c.1.block a f (by rw [d];simp))];exact v e
theorem Qmr (b y n c:Nat) (L:Nat->Qd) (w:World) (aP:0<n) (a8:n<=400) (ad:QbB w b y n L) (a9:QdY L n) (ay:Hid (Xl 59 #[.slice (some (Xa b y)) n c] w λe w'=>e=.returned (.tuple #[Xi 0,Xi 0])/\Xb w w')) : Xl 34 #[.slice (some (Xa b y)) n c] w λe w'=>∃ m nb X q,e=.returned (.tuple #[Xp q,Xi 0,Xi 0])/\w.heap.size<=q/\(∀ b,(m b).isSome=true->w.heap.size<=b)/\Qi m nb X (some (nb 1)) w' q (QC L n) n/\Xb w w':=by
 have aQ:∀ w1:World,(Instr.makeMap 139 none).run Tryz.prog w1=.ok (.map (some w1.heap.size)) (w1.alloc (.map #[] 0)):=λw1=>run_makeMap _ w1;have aa:=Qa ad;have o:=Qa a9;clear ad a9;go_enter Tryz.func34,Tryz.ntmps34;go_wp2_with (first|(go_at_call 59;refine (Qb ay).mono ?_;rintro e w1 ⟨rfl,H⟩));generalize I:World.alloc (World.alloc (World.alloc w1 _) _) _=M;have U:=H.size;have a6:Xb w1 (w1.alloc (.map #[] 0)):=Xd;have P:Xb w1 M:=by rw [<- I];exact (a6.alloc (by simp) _).alloc (by simp;omega) _
 have ag:M.heap.size=w1.heap.size+3:=by rw [<- I];simp
 have ah:Hid (QfX L w w1.heap.size (w1.heap.size+1) (w1.heap.size+1+1) 0 M):=by
  obtain ⟨a1,a2,R⟩:=Quj w1 (.map #[] 0) (.cells #[.pointer none,.map (some w1.heap.size),Xi 0] 142) (.cells #[.pointer none,.pointer none,.pointer none,.pointer none,.pointer none,.pointer none,.pointer none,.pointer none,.pointer none,.pointer none,.pointer none,.pointer none] 143);rw [I] at a1 a2 R;refine Qa ⟨λb=>if b=w1.heap.size+1 then some (0,0) else if b=w1.heap.size then some (0,1) else none,λ_=>0,⟨a2,by simp,by simp,?_,λn a8=>by simp [QC] at a8,λb hb=>?_,by simp [QC]⟩,λb hb=>?_,by simp;omega,by omega,λe N=>?_,λe=>Jp R e,by omega,H.trans (P.mono U)⟩
  ·have az:=Je.made w1;have f:(w1.alloc (.map #[] 0)).heap[w1.heap.size]?=some (.map #[] 0):=heap_alloc_new w1 _;have:=az.heap (w':=M) (a1.trans f.symm);have Y:ZH (λ_=>0) (QC L 0)=λ_=>none:=by funext i;rfl
   rw [Y];exact this
  ·try simp only [] at hb
   split at hb
   ·omega
   split at hb
   ·omega
   simp at hb
  ·try simp only [] at hb
   split at hb
   ·omega
   split at hb
   ·omega
   simp at hb
  refine (Qf R e (.pointer none) ?_).trans rfl;have:e=0 \/ e=1 \/ e=2 \/ e=3 \/ e=4 \/ e=5 \/ e=6 \/ e=7 \/ e=8 \/ e=9 \/ e=10 \/ e=11:=by omega
  rcases this with rfl|rfl|rfl|rfl|rfl|rfl|rfl|rfl|rfl|rfl|rfl|rfl<;>rfl
 have aR:=Qa (H.trans (P.mono U));generalize w1.heap.size=a at *;clear I P a6 H U ag;go_loopw [10,11,26] (λ_ _ i wr=>∃ k:Nat,k<=n/\i=Xi k/\Hid (QfX L w a (a+1) (a+1+1) k wr)) (λ_ _ i _=>n-(intOf i).toNat);·exact ⟨0,Nat.zero_le _,rfl,ah⟩
 case round =>
  obtain ⟨k,aX,rfl,F⟩:=hrel;by_cases p:k<n
  ·obtain ⟨m,nb,v,B,a3,a4,E,S,V,hb⟩:=F.out;have A:=aa.out.node k p;have C:=aa.out.lt;have ab:=(Xh hb b (y+k*5) C).trans A.c0;have aA:=(Xh hb b (y+k*5+1) C).trans A.c1;have aB:=(Xh hb b (y+k*5+2) C).trans A.c2;have aC:=(Xh hb b (y+k*5+3) C).trans A.c3;have aD:=(Xh hb b (y+k*5+4) C).trans A.c4;have aS:=hb.size;obtain ⟨e,N,a5⟩:∃ e:Nat,(L k).d=(e:Int)/\e<12:=by
    by_cases h:k=0
    ·subst h;exact ⟨0,o.out.zero,by decide⟩
    have:=o.out.deep k p (by omega);exact ⟨(L k).d.toNat,by omega,by omega⟩
   have z:m wr.heap.size=none:=by cases aE:m wr.heap.size with| none=>rfl| some aZ=>have:=v.low wr.heap.size (by rw [aE];rfl);omega
   have G:Hid (∀ w2,Xb wr w2->wr.heap.size<w2.heap.size->Xl 60 #[Xp (a+1),.agg #[Xi e,.string (L k).t,Xi (L k).k,.slice (L k).ao (L k).an (L k).ac,.string (L k).x]] w2 λr l=>∃ s:Int->Nat,r=.returned (Xp (s ((k:Int)+1)))/\l.cell? (Xa wr.heap.size 0)=w2.cell? (Xa wr.heap.size 0)/\w2.heap.size<=l.heap.size/\(∃ u,l.cell? (Xa (a+1+1) e)=some u)/\l.frozen? (Xa (a+1+1) e)=false/\(∃ u,l.cell? (Xa (a+1) 0)=some u)/\l.frozen? (Xa (a+1) 0)=false/\(∀ f,e=f+1->k≠0->l.cell? (Xa (a+1+1) f)=some (Xp (s (ZF L k k+1))))/\Hid (Qd6 L w a (a+1) (a+1+1) k s { ZQ L k with par:=0 } (l.setCell (Xa (a+1+1) e) (Xp (s ((k:Int)+1)))))):=Qa λw2 J ai=>by
    have aj:JW w2 (L k).ao (L k).an (Q4 (Zn (L k))) (Zq (Zn (L k))):=λj D=>by obtain ⟨g,aF,f,Y,aG,aH,aI,aJ⟩:=((A.ok.at'.below hb).below J) j D;exact ⟨g,aF,f,Y,by rw [Qk4 D];exact aG,by rw [QlU D];exact aH,by rw [Qk4 D];exact aI,by rw [QlU D];exact aJ⟩
    refine (Qil m nb a _ w2 (a+1) (QC L k) k (v.below J) e (L k).k (L k).t (L k).x (L k).ao (L k).an (L k).ac (Zn (L k)) (Qdo _).symm (o.out.an k p) (o.out.rise k p) aj (by omega) (by omega) (Qe8 L k) (QhF L k) (by rw [J5];omega) (o.out.tag k p) (o.out.text k p) (o.out.att k p)).mono ?_;rintro r l ⟨s,ρ',rfl,a7,aT,O,a0⟩;have W:l.heap[a+1+1]?=wr.heap[a+1+1]?:=(O.1.block _ (by omega) (by rw [a3];simp)).trans (J.block _ a4);refine ⟨s,rfl,World.cell?_of_block (O.1.block wr.heap.size ai (by rw [z];simp)),O.1.size,⟨_,(World.cell?_of_block W).trans (E e a5)⟩,(Qgd W e).trans (S e),⟨_,Qf a0.blk 0 _ rfl⟩,Jp a0.blk 0,λf aU aV=>?_,Qa (Qd6.of a0 B a3 a4 E S V hb J O a7 N a5)⟩;have aK:=o.out.par k p (by omega);have aW:=(QgC L k k).2;rw [World.cell?_of_block W,E f (by omega)];have ak:(f:Int)=(L k).d-1:=by rw [N];omega
    rw [ak,Qnz aK,a7 _ (by omega)]
   have af:Hid (k≠0->0<=ZF L k k):=Qa λh=>o.out.par k p (by omega);have ae:Hid (k≠0->1<=e):=Qa λh=>by have:=o.out.deep k p (by omega);omega
   have al:Hid (k=0->e=0):=Qa λh=>by subst h;have:=o.out.zero;omega
   rw [N] at ab;clear v E S A F z;by_cases h:k=0
   ·have ap:=al.out h;subst ap;subst h;simp only [Nat.zero_mul,Nat.add_zero] at ab aA aB aC aD;go_wp2_with (first|(go_at_call 60;refine (Qb G _ Xd (by simp)).mono ?_;rintro r l ⟨s,rfl,z,aq,⟨u,aL⟩,ar,⟨aM,au⟩,av,K,T⟩;simp [go_sem] at z;clear G K));exact ⟨⟨1,by omega,rfl,Qa (Qpm (by omega) (Qb T))⟩,by simp [intOf];omega⟩
   obtain ⟨f,rfl⟩:∃ f,e=f+1:=⟨e-1,by have:=ae.out h;omega⟩;go_wp2_with (first|(go_at_call 60;refine (Qb G _ Xd (by simp)).mono ?_;rintro r l ⟨s,rfl,z,aq,⟨u,aL⟩,ar,⟨aM,au⟩,av,K,T⟩;have K:=K f rfl h;simp [go_sem] at z;have aN:=Qa (QoV h (Qb af h) (Qb T));clear G)|(go_at_call 61;refine (Qb aN).mono ?_;rintro r aY ⟨rfl,aw⟩));exact ⟨⟨k+1,by omega,by go_num,Qa aw⟩,by simp [intOf];omega⟩
  have ax:k=n:=by omega
  subst ax;obtain ⟨m,nb,v,B,_,_,_,_,V,hb⟩:=F.out;rw [if_neg (by omega)] at v;have aO:Hid (∃ m nb X q,Ending.returned (.tuple #[Xp (a+1),Xi 0,Xi 0])=.returned (.tuple #[Xp q,Xi 0,Xi 0])/\w.heap.size<=q/\(∀ b,(m b).isSome=true->w.heap.size<=b)/\Qi m nb X (some (nb 1)) wr q (QC L k) k/\Xb w wr):=Qa ⟨m,nb,a,a+1,rfl,B _ (by rw [v.role];rfl),B,v,hb⟩;clear v B V hb F;go_wp2;refine bodyPost_ret (results_tmp3 rfl _ _ _) rfl ?_;exact aO.out
theorem Qr4 (a q:Nat) (w:World) (b:Value->World->Prop) (f:Xc w a 0 (Xp q)) (c:Hid (Xl 37 #[Xp q] w λe w'=>∃ v,e=.returned v/\b v w')) : Xl 21 #[Xp a] w λe w'=>∃ v,e=.returned v/\b v w':=by go_enter Tryz.func21,Tryz.ntmps21;go_wp2_with (first|(go_at_call 37;refine (Qb c).mono ?_;rintro e w2 ⟨v,rfl,d⟩));go_ret;exact ⟨v,rfl,d⟩
theorem QrH (a q:Nat) (w:World) (b:Value->World->Prop) (f:Xc w a 0 (Xp q)) (c:Hid (Xl 38 #[Xp q] w λe w'=>∃ v,e=.returned v/\b v w')) : Xl 22 #[Xp a] w λe w'=>∃ v,e=.returned v/\b v w':=by go_enter Tryz.func22,Tryz.ntmps22;go_wp2_with (first|(go_at_call 38;refine (Qb c).mono ?_;rintro e w2 ⟨v,rfl,d⟩));go_ret;exact ⟨v,rfl,d⟩
theorem QnG (b q:Nat) (w:World) (ao:Option Addr) (n c:Nat) (d:Int->Int->World->Prop) (h:Xc w b 0 (Xp q)) (f:Hid (Xl 36 #[Xp q,.slice ao n c] w λe w'=>∃ x a,e=.returned (.tuple #[Xi x,Xi a])/\d x a w')) : Xl 19 #[Xp b,.slice ao n c] w λe w'=>∃ x a,e=.returned (.tuple #[Xi x,Xi a])/\d x a w':=by go_enter Tryz.func19,Tryz.ntmps19;go_wp2_with (first|(go_at_call 36;refine (Qb f).mono ?_;rintro e w2 ⟨x,a,rfl,g⟩));refine bodyPost_ret (results_tmp2 rfl _ _ _) rfl ?_;exact ⟨x,a,rfl,g⟩
theorem QtE (ao:Option Addr) (n c:Nat) (w:World) (a:Nat->World->Prop) (d:Hid (Xl 34 #[.slice ao n c] w λe w'=>∃ q,e=.returned (.tuple #[Xp q,Xi 0,Xi 0])/\a q w')) : Xl 17 #[.slice ao n c] w λe w'=>∃ q w1,a q w1/\w'=w1.alloc (.cells #[Xp q] 94)/\e=.returned (.tuple #[Xp w1.heap.size,Xi 0,Xi 0]):=by go_enter Tryz.func17,Tryz.ntmps17;go_wp2_with (first|(go_at_call 34;refine (Qb d).mono ?_;rintro e w1 ⟨q,rfl,b⟩));refine bodyPost_ret (results_tmp3 rfl _ _ _) rfl ?_;exact ⟨q,w1,b,rfl,rfl⟩
theorem Qat {L:Nat->Qd} {i:Nat} (h:QQ L i=true):Q8 (L i)=true \/ Zz (L i)=true:=by
 unfold QQ at h;by_cases a:i=0
 ·subst a;rw [if_pos rfl] at h;simp only [Bool.and_eq_true] at h;exact .inl h.2
 rw [if_neg a] at h;simp only [Bool.and_eq_true,Bool.or_eq_true] at h;exact h.1.2
theorem QbP {L:Nat->Qd} {i:Nat} (a:0<i) (h:QQ L i=true):1<=(L i).d/\(L i).d<=11/\(L i).d<=(L (i-1)).d+1:=by unfold QQ at h;rw [if_neg (by omega)] at h;simp [JL] at h;omega
theorem Qa0 {m:Qd} (h:Q8 m=true \/ Zz m=true):m.an<=5/\∀ j,j<m.an->Ju m.nm m.vl j=true/\Q8 m=true:=by
 rcases h with h|h
 ·have a:=h;unfold Q8 JJ at a;simp only [Bool.and_eq_true,decide_eq_true_eq,all_eq_true,mem_range] at a;exact ⟨a.2.1,λj b=>⟨a.2.2 j b,h⟩⟩
 unfold Zz at h;simp only [Bool.and_eq_true,decide_eq_true_eq] at h;have c:m.an=0:=h.1.2;exact ⟨by omega,λj b=>by omega⟩
theorem QdI {nm vl:Nat->ByteArray} {j:Nat} (h:Ju nm vl j=true):QR (nm j)=true/\Zx (vl j)=true/\(0<j->Q1 (nm (j-1)) (nm j)=true):=by unfold Ju at h;simp only [Bool.and_eq_true,Bool.or_eq_true,decide_eq_true_eq] at h;exact ⟨h.1.1,h.1.2,λa=>h.2.resolve_left (by omega)⟩
theorem QhP {m:Qd} (h:Q8 m=true \/ Zz m=true):Zw (Zn m):=by
 obtain ⟨_,d⟩:=Qa0 h;have b:∀ j,j<m.an->∀ i,i<j->Q1 (m.nm i) (m.nm j)=true:=by
  intro j;induction j with
  | zero=>intro _ i f;omega
  | succ j ih =>
   intro g i f;have a:=(QdI (d (j+1) g).1).2.2 (by omega);rw [Nat.add_sub_cancel] at a;by_cases e:i=j
   ·subst e;exact a
   exact Qfh _ _ _ (ih (by omega) i (by omega)) a
 unfold Zw Zn;rw [pairwise_map];refine List.Pairwise.imp_of_mem (fun {x l} o k c=>?_) (pairwise_lt_range (n:=m.an));exact b l (mem_range.1 k) x c
theorem Qhq {m:Qd} {x:ByteArray × ByteArray} (h:x ∈ Zn m):∃ j,j<m.an/\x=(m.nm j,m.vl j):=by unfold Zn at h;obtain ⟨j,a,rfl⟩:=mem_map.1 h;exact ⟨j,mem_range.1 a,rfl⟩
theorem Qfo {s:ByteArray} (h:Zx s=true):s.size<=20:=by unfold Zx at h;simpa using h
theorem QgP {s:ByteArray} (h:s.toList.isEmpty=true):s.size=0:=by
 have b:s.toList=[]:=isEmpty_iff.1 h;have a:s.toList.length=s.size:=by rw [ByteArray.toList_eq,Array.length_toList];rfl
 rw [b] at a;exact a.symm
theorem QgE {m:Qd} (h:Q8 m=true \/ Zz m=true):m.t.size<=8/\m.x.size<=20:=by
 rcases h with h|h
 ·unfold Q8 at h;simp only [Bool.and_eq_true] at h;exact ⟨Qdu h.1.1.1,by have:=QgP h.1.1.2;omega⟩
 unfold Zz at h;simp only [Bool.and_eq_true] at h;exact ⟨by have:=QgP h.1.1.1;omega,Qfo h.2⟩
theorem QdY.of {L:Nat->Qd} {n:Nat} (d:0<n) (h:∀ i,i<n->QQ L i=true):QdY L n where
 zero:=QeR (h 0 d)
 deep:=λi a b=>⟨(QbP b (h i a)).1,(QbP b (h i a)).2.1⟩
 par:=λi a b=>by
  obtain ⟨p,f⟩:=Qhd b (λj c=>h j (by omega)) (QbP b (h i a)).1 (QbP b (h i a)).2.2
  rw [f.parent]
  omega
 an:=λi a=>(Qa0 (Qat (h i a))).1
 rise:=λi a=>QhP (Qat (h i a))
 tag:=λi a=>by have:=(QgE (Qat (h i a))).1;omega
 text:=λi a=>by have:=(QgE (Qat (h i a))).2;omega
 att:=λi a x g=>by
  obtain ⟨j,c,rfl⟩:=Qhq g
  have:=QdI ((Qa0 (Qat (h i a))).2 j c).1
  exact ⟨Nat.le_trans (Qdu this.1) (by decide),Nat.le_trans (Qfo this.2.1) (by decide)⟩
theorem QjD {L:Nat->Qd} {n:Nat} (h:∀ i,i<n->QQ L i=true):ZA (QC L n):=λm f a c=>by obtain ⟨i,d,rfl⟩:=getElem_of_mem f;rw [Qax] at c ⊢;rw [J5] at d;obtain ⟨j,g,rfl⟩:=Qhq (show a ∈ Zn (L i) from c);obtain ⟨k,b⟩:=(Qa0 (Qat (h i d))).2 j g;refine ⟨(QdI k).1,?_⟩;unfold Q8 at b;simp only [Bool.and_eq_true] at b;show (L i).t.toList.isEmpty=false;cases l:(L i).t.toList.isEmpty with| false=>rfl| true=>rw [QlF l] at b;cases b.1.1.1
theorem Qg0 {L:Nat->Qd} {n:Nat} (k:0<n) (h:∀ i,i<n->QQ L i=true):QE (QC L n) n where
 ids:=Qe8 L n
 up:=by
  refine ⟨λx=>((L (x-1).toNat).d).toNat,λm c=>?_,λm c f=>?_⟩
  ·obtain ⟨i,a,rfl⟩:=getElem_of_mem c
   rw [Qax]
   rw [J5] at a
   by_cases b:i=0
   ·subst b;exact .inl rfl
   ·right
    have f:=(QdY.of k h).par i a (by omega)
    have u:=(QgC L i i).2
    have l:(ZF L i i).toNat<(QC L n).length:=by rw [J5];omega
    refine ⟨(QC L n)[(ZF L i i).toNat],getElem_mem l,?_⟩
    rw [Qax]
    show (((ZF L i i).toNat:Nat):Int)+1=Jv L i
    unfold Jv
    rw [if_neg b]
    omega
  ·obtain ⟨i,a,rfl⟩:=getElem_of_mem c
   rw [Qax] at f ⊢
   rw [J5] at a
   have o:(ZQ L i).par=Jv L i:=rfl
   have q:(ZQ L i).id=(i:Int)+1:=rfl
   by_cases b:i=0
   ·subst b;exact absurd rfl f
   ·obtain ⟨p,g⟩:=Qhd (by omega) (λj v=>h j (by omega)) (QbP (by omega) (h i a)).1 (QbP (by omega) (h i a)).2.2
    have r:Jv L i=(p:Int)+1:=by unfold Jv;rw [if_neg b,g.parent]
    rw [o,q,r]
    have s:((p:Int)+1-1).toNat=p:=by omega
    have t:((i:Int)+1-1).toNat=i:=by omega
    have y:=(QbP (by omega) (h i a)).1
    have z:=g.up
    simp only [s,t]
    omega
 top:=λm c=>(QhF L n m c).1
 root:=by
  have b:0<(QC L n).length:=by rw [J5];exact k
  refine ⟨(QC L n)[0],getElem_mem b,?_,?_⟩
  ·rw [Qax];rfl
  ·rw [Qax];rfl
end Go.Proofs.YtobgcaemnpkbmaaGreatDoor
