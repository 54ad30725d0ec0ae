import Derived.Test.YtobgcaemnpkbmaaGreatDoorC10
namespace Go.Proofs.YtobgcaemnpkbmaaGreatDoor
set_option maxRecDepth 100000
set_option maxHeartbeats 8000000
open Go.RowKit List
def Qgk (b:Qo) (nb:Int->Nat) (c:Nat) (d:Option Nat) (w:World) (q:Nat) (R:List RN) (last:Int) (n:RN) (e:Ending) (w':World):Prop :=
  ∃ (a:Int->Nat) (ρ':Qo),e=.returned (Xp (a (last+1)))/\(∀ i,i≠last+1->a i=nb i)/\w.heap.size<=a (last+1)/\QV b ρ' w w'/\Qi ρ' a c d w' q (R++[n]) (last+1)
theorem QuQ {w:World} {c:Nat} {e:TypeId} {size:Nat} {v:Value} {n:Nat} {xs:List Value} (h:w.ownsRow c e size v n xs):w.ownsRow 0 e size v n xs:=by
 refine ⟨h.1,?_⟩;rcases h.2 with b|⟨g,cap,a,e,_,rest⟩
 ·exact .inl b
 exact .inr ⟨g,cap,a,e,Nat.zero_le _,rest⟩
theorem QtW {nb b:Int->Nat} {a:List Int} (h:∀ i,i ∈ a->b i=nb i):Z5 b a=Z5 nb a:=by unfold Z5;exact map_congr_left λi c=>by rw [h i c]
theorem Qi.added {l:Qo} {nb:Int->Nat} {s:Nat} {D:Option Nat} {w w':World} {q:Nat} {R:List RN} {last:Int} (h:Qi l nb s D w q R last) (I:Qp R) (a3:0<=last) (z:∀ n,n ∈ R->n.id<=last/\0<=n.par/\n.par<=last) (a1:R.length<800) {c:Nat} {k:Value} {n:RN} (o:n.id=last+1) (S:n.par=0) (T:w.heap.size<=c) (a2:c<w'.heap.size) (J:w.heap.size<=w'.heap.size) (E:w'.os=w.os/\w'.tape=w.tape/\w'.output=w.output) (F:∀ b,b<w.heap.size->b≠q->b≠s->w'.heap[b]?=w.heap[b]?) (X:w'.heap[q]?=some (.cells #[QcD D,.map (some s),Xi (last+1)] 142 (0,0))) (N:Je w' s (λj=>if j=last+1 then some c else ZH nb R j) (R.length+1)) (O:w'.heap[c]?=some (.cells #[Xi (last+1),Xi n.key,.string n.tag,.string n.text,k,.pointer none,Xv] 148 (0,0))) (G:w'.ownsRow 0 96 2 k n.ats.length (QM n.ats)) (A:∀ b,k.ownBlock=some b->w.heap.size<=b/\b≠c) (P:n.ats.length<=5) (M:Zw n.ats) (Y:n.tag.size<=maxLen) (p:n.text.size<=maxLen) (U:∀ x,x ∈ n.ats->x.1.size<=maxLen/\x.2.size<=maxLen) : Qgk l nb s D w q R last n (.returned (Xp c)) w':=by
 have t:∀ b,(l b).isSome=true->(if b=c then some (last+1,0) else if k.ownBlock=some b then some (last+1,1) else l b)=l b:=λb d=>by have:=h.low b d;rw [if_neg (by omega),if_neg (λe=>by have:=(A b e).1;omega)]
 have u:∀ i,i≠last+1->(if i=last+1 then c else nb i)=nb i:=λi v=>if_neg v;have H:∀ m,m ∈ R->Qe (R++[n]) m.id=Qe R m.id:=λm f=>by have:=I.pos m f;rw [Z0,JX,if_neg (by omega),append_nil]
 refine ⟨λi=>if i=last+1 then c else nb i,λb=>if b=c then some (last+1,0) else if k.ownBlock=some b then some (last+1,1) else l b,by simp,u,by simp;exact T,⟨⟨E.1,E.2.1,E.2.2,J,λb hb K=>?_⟩,t,λb d=>?_⟩,⟨X,?_,?_,?_,λm f=>?_,λb d=>?_,by simp;omega⟩⟩
 ·exact F b hb (λe=>K (by rw [e,h.role];rfl)) (λe=>K (by rw [e,h.mrole];rfl))
 ·simp only at d;by_cases e:b=c
  ·right;omega
  rw [if_neg e] at d;by_cases r:k.ownBlock=some b
  ·exact .inr (A b r).1
  rw [if_neg r] at d;exact .inl d
 ·exact (t q (by rw [h.role];rfl)).trans h.role
 ·exact (t s (by rw [h.mrole];rfl)).trans h.mrole
 ·have e:ZH (λi=>if i=last+1 then c else nb i) (R++[n])=λj=>if j=last+1 then some c else ZH nb R j:=by
   funext j;by_cases y:j=last+1
   ·rw [if_pos y,y,<- o,Qc4 (by simp),o,if_pos rfl]
   rw [if_neg y];unfold ZH;rw [any_append];have:([n].any λm=>m.id==j)=false:=by simp [o];omega
   rw [this,Bool.or_false];simp only [if_neg y]
  rw [e,length_append];exact N
 ·rcases mem_append.1 f with f|f
  ·obtain ⟨B,C,a0⟩:=h.node m f;have a4:=z m f;have hb:∀ b j,l b=some (m.id,j)->w'.heap[b]?=w.heap[b]?:=λb j e=>by
    have a5:=I.pos m f;refine F b (h.low b (by rw [e];rfl)) (λx=>?_) (λx=>?_)
    ·rw [x,h.role] at e;have:=(Prod.mk.inj (Option.some.inj e)).1;omega
    rw [x,h.mrole] at e;have:=(Prod.mk.inj (Option.some.inj e)).1;omega
   have g:=a0.kept (w':=w') (R':=R++[n]) hb t (H m f);have L:(if m.id=last+1 then c else nb m.id)=nb m.id:=u m.id (by omega);have r:Qb7 (λi=>if i=last+1 then c else nb i) m B C=Qb7 nb m B C:=by have p:=u m.par (by omega);unfold Qb7 Zo;simp only [p]
   refine ⟨B,C,⟨?_,?_,g.arow,g.arole,?_,g.krole,g.few,g.rise,g.tag,g.text,g.size⟩⟩
   ·rw [r];simp only [L];exact g.blk
   ·simp only [L];exact g.role
   rw [QtW (nb:=nb) (λi v=>?_)]
   ·exact g.krow
   rw [H m f] at v;obtain ⟨x,p,_,rfl⟩:=Qaz.1 v;exact u x.id (by have:=(z x p).1;omega)
  rw [mem_singleton.1 f];have V:Qe (R++[n]) n.id=[]:=by rw [Z0,JX,if_neg (by omega),append_nil];cases p:Qe R n.id with| nil=>rfl| cons a a7 =>obtain ⟨x,W,a6,_⟩:=Qaz.1 (show a ∈ Qe R n.id by rw [p];simp);have:=(z x W).2.2;omega
  refine ⟨k,Xv,⟨?_,?_,G,λb e=>?_,?_,(λb e=>by cases e),P,M,Y,p,U⟩⟩
  ·simp only [o,if_true];rw [O];unfold Qb7 Zo;rw [o,S,if_pos rfl]
  ·simp only [o,if_true]
  ·show (if b=c then some (last+1,0) else if k.ownBlock=some b then some (last+1,1) else l b)=some (n.id,1);rw [if_neg (A b e).2,if_pos e,o]
  rw [V];exact World.ownsRow_nil _ _ _ _
 replace d:(if b=c then some (last+1,0) else if k.ownBlock=some b then some (last+1,1) else l b).isSome=true:=d;by_cases e:b=c
 ·omega
 rw [if_neg e] at d;by_cases r:k.ownBlock=some b
 ·exact (G.lt b r).2
 rw [if_neg r] at d;exact Nat.lt_of_lt_of_le (h.low b d) J
theorem Qcs {P:Program} (w:World) {f:Oper} {a:Act} {k:Act->World->Prop} {O:Exit->Act->World->Prop} (s x:Operand) (t:TypeId) (D:f.op=.call { callee:=.builtin .append,args:=#[s,x],argTypes:=#[t,t] }) (base:Nat) (e:TypeId) (i:TypeInfo) (z:Value) (size g:Nat) (E:P.underlying t=some (.slice e)) (F:P.info? e=some i) (G:i.zero=some z) (o:i.size=size) (A:i.bytes=g) (B:z.cells.size=size) (v:Value) (n:Nat) (xs:List Value) (H:a.eval s=v) (y:w.ownsRow base e size v n xs) (ao:Option Addr) (m c:Nat) (b:List Value) (I:a.eval x=.slice ao m c) (p:ao=none->m=0/\c=0) (J:b.length=m*size) (q:∀ a,ao=some a->∀ j u,b[j]?=some u->w.cell? (a.add j)=some u) (K:∀ u ∈ b,u.oneCell'=true) (C:n+m<=9223372036854775807) (l:(n+m)*g<=140737488355328) (r:base<=w.heap.size) (h:∀ d w',w'.ownsRow base e size d (n+m) (xs++b)->Zl w w' v d->k (a.put f.dst d) w'):f.wp P a w k O:=by obtain ⟨d,w',L,M,N,R⟩:=Qkz (P:=P) w base t f.type e i z size g E F G o A B v n xs y ao m c b p J q K C l r;unfold Oper.wp execOp;simp only [D,resolve,invoke,builtin,Sem.run_bind,Sem.run_pure,Result.andThen_ok,map_toArray,map_cons,map_nil,H,I,L];exact h d w' M N
theorem Qil (b4:Qo) (nb:Int->Nat) (A:Nat) (X:Option Nat) (w:World) (q:Nat) (R:List RN) (last:Int) (h:Qi b4 nb A X w q R last) (d B:Int) (tg k:ByteArray) (ao:Option Addr) (an ac:Nat) (l:List (ByteArray × ByteArray)) (aU:an=l.length) (c3:an<=5) (b9:Zw l) (aV:JW w ao an (Q4 l) (Zq l)) (bh:0<=last) (c8:last<=4611686018427387904) (bK:Qp R) (aQ:∀ n,n ∈ R->n.id<=last/\0<=n.par/\n.par<=last) (ba:R.length<800) (c9:tg.size<=1000000) (ca:k.size<=1000000) (aW:∀ x,x ∈ l->x.1.size<=1000000/\x.2.size<=1000000) : Xl 60 #[Xp q,.agg #[Xi d,.string tg,Xi B,.slice ao an ac,.string k]] w (Qgk b4 nb A X w q R last { id:=last+1,par:=0,tag:=tg,key:=B,text:=k,ats:=l,ao:=none,an:=0,ac:=0 }):=by
 obtain ⟨bL,bM,bi,a5,bj⟩:=info_parts Qdc;have b5:=Qf h.blk 2 (Xi last) rfl;have bN:=Jp h.blk 2;have aX:=QN h.blk;have y:=Qa h;have ar:=Qa aU;have bk:=Qa aV;have bl:tg.size<=281474976710656:=by omega
 have au:k.size<=281474976710656:=by omega
 clear h aU aV;go_enter Tryz.func60,Tryz.ntmps60;go_wp2_with fail;generalize v:(w.setCell (Xa q 2) (Xi (last+1))).alloc (.cells #[Xi d,.string tg,Xi B,.slice ao an ac,.string k] 47)=w1;have a5:w1.heap.size=w.heap.size+1:=by rw [<- v];simp
 have bO:w1.cell? (Xa w.heap.size 1)=some (.string tg):=by rw [<- v];simp [go_sem]
 have bP:w1.cell? (Xa w.heap.size 2)=some (Xi B):=by rw [<- v];simp [go_sem]
 have b6:w1.cell? (Xa w.heap.size 3)=some (.slice ao an ac):=by rw [<- v];simp [go_sem]
 have bQ:w1.cell? (Xa w.heap.size 4)=some (.string k):=by rw [<- v];simp [go_sem]
 have bR:w1.cell? (Xa q 2)=some (Xi (last+1)):=by rw [<- v,World.cell?_alloc_lt _ _ _ (by rw [ZL];exact aX)];exact World.cell?_setCell_same _ _ _ b5
 have aY:Hid (∀ b,b<w.heap.size->b≠q->w1.heap[b]?=w.heap[b]?):=Qa λb hb s=>by rw [<- v,heap_alloc_old _ _ (by rw [ZL];exact hb)];exact Below.heap_setCell _ _ _ _ s
 have bm:Hid (w1.heap[q]?=some (.cells #[QcD X,.map (some A),Xi (last+1)] 142 (0,0))):=Qa (by rw [<- v,heap_alloc_old _ _ (by rw [ZL];exact aX)];exact Qb4 (i:=2) y.out.blk _);have av:Hid (w1.os=w.os/\w1.tape=w.tape/\w1.output=w.output):=Qa (by rw [<- v];exact ⟨rfl,rfl,rfl⟩);have cb:q<w1.heap.size:=by omega
 have bn:w.heap.size<w1.heap.size:=by omega
 have bo:=Qa a5;clear v a5 b5 bN
 go_region_held3 (λw'=>w'.cell? (Xa q 2)=some (Xi (last+1))/\w'.cell? (Xa w.heap.size 1)=some (.string tg)/\w'.cell? (Xa w.heap.size 2)=some (Xi B)/\w'.cell? (Xa w.heap.size 4)=some (.string k))
   (first
     | go_keep
     | (go_split_ands
        refine ⟨?_,?_,?_,?_⟩
        · (rw [F.cell (by simp;omega)];assumption)
        · (rw [F.cell (by simp;omega)];assumption)
        · (rw [F.cell (by simp;omega)];assumption)
        · (rw [F.cell (by simp;omega)];assumption))
     | (go_split_ands
        refine ⟨?_,?_,?_,?_⟩
        · (rw [G.cell (by simp;omega)];assumption)
        · (rw [G.cell (by simp;omega)];assumption)
        · (rw [G.cell (by simp;omega)];assumption)
        · (rw [G.cell (by simp;omega)];assumption)))
   (first|(go_at_call_of 94 (Value.string tg);refine (Qcq tg _ bl).mono ?_;rintro e bS ⟨rfl,F⟩;have aZ:w1.heap.size<=bS.heap.size:=F.size)|(go_at_call_of 94 (Value.string k);refine (Qcq k _ au).mono ?_;rintro e aC ⟨rfl,G⟩;have bp:=G.size))
 rename_i hHeld;clear hHeld;have Y:Xb w1 aC:=(Below.refl w1.heap.size w1).drew.trans (F.trans (G.mono aZ));generalize a6:aC.heap.size=c;generalize a7:aC.alloc (.cells #[Xi (last+1),Xi B,.string tg,.string k,Xv,.pointer none,Xv] 148)=m at *;have bq:Hid (m.heap[c]?=some (.cells #[Xi (last+1),Xi B,.string tg,.string k,Xv,.pointer none,Xv] 148 (0,0))):=Qa (by rw [<- a7,<- a6];exact heap_alloc_new _ _);have al:Xb w1 m:=by rw [<- a7];exact Y.alloc Y.size _
 have aw:m.heap.size=c+1:=by rw [<- a7,<- a6];simp
 have cc:w1.heap.size<=c:=by rw [<- a6];exact Y.size
 have cl:=(Xh al w.heap.size 3 bn).trans b6;have J:=Qa al;have br:=Qa aw;clear F G aZ bp Y al aw a7 a6 bO bP b6 bQ bR;go_wp2;go_loopw [7,32] (λ_ i wr=>∃ (j:Nat) (af:Value),j<=an/\i=Xi j/\Hid (wr.heap[c]?=some (.cells #[Xi (last+1),Xi B,.string tg,.string k,af,.pointer none,Xv] 148 (0,0)))/\Hid (wr.ownsRow m.heap.size 96 2 af j (QM (l.take j)))/\Hid (m.heap.size<=wr.heap.size)/\Hid (∀ b,b<m.heap.size->b≠c->wr.heap[b]?=m.heap[b]?)/\Hid (wr.os=m.os/\wr.tape=m.tape/\wr.output=m.output)) (λ_ i _=>an-(intOf i).toNat);·exact ⟨0,Xv,Nat.zero_le _,rfl,bq,Qa (World.ownsRow_nil _ _ _ _),Qa (Nat.le_refl _),Qa (λ_ _ _=>rfl),Qa ⟨rfl,rfl,rfl⟩⟩
 case round =>
  obtain ⟨j,af,cm,rfl,U,a0,bs,a1,K⟩:=hrel;have aw:=br.out;have c4:=bs.out;by_cases bt:j<an
  ·have a8:j<l.length:=by have:=ar.out;omega
   obtain ⟨g,aO,bu,bv,f,M,_,_⟩:=bk.out j bt;subst bu;have bw:g≠q:=λe=>by
    subst e;have C:=y.out.blk;simp only [World.cell?,C] at f;rcases N:(aO+j*2) with _|_|_|n
    ·rw [N] at f;cases X<;>simp [QcD] at f
    ·rw [N] at f;simp at f
    ·rw [N] at f;simp at f
    rw [N] at f;simp at f
   have ax:wr.heap[g]?=w.heap[g]?:=(a1.out g (by omega) (by omega)).trans ((J.out.block g (by omega)).trans (aY.out g bv bw));have bT:wr.cell? (Xa g (aO+j*2))=some (.string l[j].1):=by rw [World.cell?_of_block ax,f];unfold Q4;rw [Xg a8];rfl
   have bU:wr.cell? (Xa g (aO+j*2+1))=some (.string l[j].2):=by rw [World.cell?_of_block ax,M];unfold Zq;rw [Xg a8];rfl
   have cd:=aW l[j] (getElem_mem a8);have bx:l[j].1.size<=281474976710656:=by omega
   have bz:l[j].2.size<=281474976710656:=by omega
   have ce:(j:Int)<(an:Int):=by omega
   obtain ⟨O,P,L⟩:=Qz a0.out;clear f M ax;subst L;go_wp2_with fail;have bA:l[j]=(l[j].1,l[j].2):=rfl;generalize cf:l[j].1=o at *;generalize cg:l[j].2=r at *;generalize V:wr.alloc (.cells #[.string o,.string r] 96)=D;have ay:=Xt V;have b7:=X1 V;have aD:=Xz V 0 (.string o) rfl;have aE:=Xz V 1 (.string r) rfl;have W:c<wr.heap.size:=by omega
   have az:D.heap[c]?=_:=(ay.block c W).trans U.out;have aF:=Qf az 4 (.slice O j P) rfl;have aG:Xf D c 4:=Jp az 4;have bB:=Qa ay;have cn:=Qa b7;have b0:wr.heap.size<D.heap.size:=by omega
   have b1:c<D.heap.size:=by omega
   clear V ay b7 bT bU az;have a9:(λw'=>Xf w' c 4/\Xc w' c 4 (.slice O j P)/\Xc w' wr.heap.size 0 (.string o)/\Xc w' wr.heap.size 1 (.string r)) D.drew:=⟨aG,aF,aD,aE⟩;refine Zm (S:=(λw'=>w'.frozen? (Xa c 4)=false/\w'.cell? (Xa c 4)=some (.slice O j P)/\w'.cell? (Xa wr.heap.size 0)=some (.string o)/\w'.cell? (Xa wr.heap.size 1)=some (.string r))) (by kernel_rfl) ?_;iterate 7
    apply Q0 ?_ a9 ?_;rotate_left
    ·(intro w' hSw;(try dsimp only at hSw);simp only [Xq];go_simp;try (with_reducible rfl))
    simp only [Xq,Xr]
   refine J0 8 ?_;apply JZ ?_ a9 ?_;rotate_left
   ·(intro w' hSw;(try dsimp only at hSw);simp only [Xq];go_simp;try (with_reducible rfl))
   simp only [Xq,Xr];refine J0 9 ?_;apply JZ ?_ a9 ?_;rotate_left
   ·(intro w' hSw;(try dsimp only at hSw);simp only [Xq];go_simp;try (with_reducible rfl))
   simp only [Xq,Xr];refine Qq 7 ?_;simp only [Xq];go_simp;refine (Qcq o _ bx).mono ?_;rintro e aH ⟨rfl,H⟩;have co:D.heap.size<=aH.heap.size:=H.size;have aI:=(Xh H wr.heap.size 0 b0).trans aD;have aJ:=(Xh H wr.heap.size 1 b0).trans aE;have aK:=(Xh H c 4 b1).trans aF;have aL:=(Xj H c 4 b1).trans aG;have bC:Hid (Xb wr aH):=Qa (bB.out.trans (((Below.refl D.heap.size D).drew.trans H).mono (by omega)));refine ⟨.inr ⟨aL,aK,aI,aJ⟩,?_⟩;clear H a9 aD aE aF aG;try simp only [Xr]
   refine Qq 10 ?_;simp only [Xq];go_simp;refine (Qcq r _ bz).mono ?_;rintro e z ⟨rfl,E⟩;have ch:aH.heap.size<=z.heap.size:=E.size;have f:=(Xh E wr.heap.size 0 (by show wr.heap.size<_;omega)).trans aI;have M:=(Xh E wr.heap.size 1 (by show wr.heap.size<_;omega)).trans aJ;have aM:=(Xh E c 4 (by show c<_;omega)).trans aK;have b8:=(Xj E c 4 (by show c<_;omega)).trans aL;have aR:Hid (Xb wr z):=Qa (bC.out.trans (E.mono (by omega)));refine ⟨.inr ⟨b8,aM,f,M⟩,?_⟩;clear E aI aJ aK aL;try simp only [Xr]
   refine Qq 11 ?_;simp only [Xq];go_simp;refine Qq 12 ?_;simp only [Xq];go_simp;generalize T:z.alloc (.cells #[.string o,.string r] 96)=t;have ap:Xb wr t:=by rw [<- T];exact aR.out.alloc aR.out.size _
   have b2:=X1 T;have aP:∀ a,some ((Xa z.heap.size 0):Addr)=some a->∀ i u,[Value.string o,.string r][i]?=some u->t.cell? (a.add i)=some u:=by rw [<- T];exact Z9 z #[.string o,.string r] 96
   have ag:=(World.cell?_alloc_lt z (.cells #[.string o,.string r] 96) (Xa wr.heap.size 0) (by show wr.heap.size<_;omega)).trans f;have ah:=(World.cell?_alloc_lt z (.cells #[.string o,.string r] 96) (Xa wr.heap.size 1) (by show wr.heap.size<_;omega)).trans M;have ai:=(World.cell?_alloc_lt z (.cells #[.string o,.string r] 96) (Xa c 4) (by show c<_;omega)).trans aM;have aN:t.frozen? (Xa c 4)=false:=by rw [ap.frozen (p:=(Xa c 4)) W];exact Jp U.out 4
   rw [T] at ag ah ai;refine ⟨.inr ⟨aN,ai,ag,ah⟩,?_⟩;have I:=Qa ap;have ci:=Qa b2;have c5:wr.heap.size<t.heap.size:=by omega
   have bb:m.heap.size<=t.heap.size:=by omega
   clear T ap b2 f M aM b8;refine Qq 13 ?_;simp only [Xq];refine Qcs t _ _ 45 (by rfl) m.heap.size 96 bL _ 2 32 Tryz.underlying45 bM bi a5 bj rfl (.slice O j P) j (QM (l.take j)) (by rfl) (Zi a0.out I.out) (some (Xa z.heap.size 0)) 1 1 [.string o,.string r] (by rfl) (by simp) rfl aP (by simp [Value.oneCell']) (by omega) (by omega) bb ?_;intro cp aa aj a2;obtain ⟨bV,bW,rfl⟩:=Qz aj;have cj:t.heap.size<=aa.heap.size:=a2.size;have L:∀ b,Value.ownBlock (.slice O j P)=some b->m.heap.size<=b/\b<wr.heap.size:=λb e=>a0.out.lt b e;have a3:∀ b,b<t.heap.size->Value.ownBlock (.slice O j P)≠some b->aa.heap[b]?=t.heap[b]?:=λb hb s=>a2.by.block b hb (λe=>s e.symm);have ab:aa.heap[c]?=t.heap[c]?:=a3 c (by omega) (λe=>by have:=L _ e;omega);have aA:aa.heap[wr.heap.size]?=t.heap[wr.heap.size]?:=a3 wr.heap.size (by omega) (λe=>by have:=L _ e;omega);have bX:=(Xk wr.heap.size 0 aA).trans ag;have bY:=(Xk wr.heap.size 1 aA).trans ah;have bZ:=(Xk c 4 ab).trans ai;have c0:=(Xm c 4 ab).trans aN;refine ⟨.inr ⟨c0,bZ,bX,bY⟩,?_⟩;have aS:=Qa aj;have aq:=Qa a2;have bD:=Qa L;have bc:=Qa a3;have bE:=Qa ab;clear aj a2 L a3 ab aA ag ah ai aN aP;try simp only [Xr]
   refine Qq 14 ?_;simp only [Xq];go_simp;refine Qq 15 ?_;simp only [Xq];go_simp;refine Qq 16 ?_;simp only [Xq];go_simp;refine ⟨by kernel_rfl,?_⟩;refine Zk (by kernel_rfl) ?_ _;go_wp2;go_roundw
   ·have bd:=bE.out.trans ((I.out.block c W).trans U.out);refine ⟨j+1,.slice bV (j+1) bW,by omega,by go_num,Qa (Qb4 (i:=4) bd _),?_,Qa (by rw [ZL];omega),Qa (λb hb s=>?_),Qa ⟨?_,?_,?_⟩⟩
    ·have e:QM (l.take (j+1))=QM (l.take j)++[.string o,.string r]:=by rw [QgG a8,QfG,bA];rfl
     rw [e];exact Qa (QT aS.out λb c1=>Below.heap_setCell _ _ _ _ (λx=>by have x:b=c:=x;have:=(aS.out.lt b c1).1;omega))
    ·rw [Below.heap_setCell _ _ _ _ s,bc.out b (by omega) (λe=>by have:=bD.out b e;omega),I.out.block b (by omega)];exact a1.out b hb s
    ·exact aq.out.by.os.trans (I.out.os.trans K.out.1)
    ·exact aq.out.by.tape.trans (I.out.tape.trans K.out.2.1)
    exact aq.out.by.output.trans (I.out.output.trans K.out.2.2)
   simp [intOf];omega
  have b3:j=an:=by omega
  have ad:Hid (wr.ownsRow m.heap.size 96 2 af an (QM l)):=by have:=a0.out;rw [b3,take_of_length_le (by have:=ar.out;omega)] at this;exact Qa this
  have W:c<wr.heap.size:=by omega
  have aT:=U.out;have cq:=Qf aT 0 (Xi (last+1)) rfl;have aB:wr.heap[q]?=some (.cells #[QcD X,.map (some A),Xi (last+1)] 142 (0,0)):=(a1.out q (by omega) (by omega)).trans ((J.out.block q (by omega)).trans bm.out);have cr:=Qf aB 1 (.map (some A)) rfl;have ak:∀ b,b<w.heap.size->b≠q->wr.heap[b]?=w.heap[b]?:=λb hb s=>(a1.out b (by omega) (by omega)).trans ((J.out.block b (by omega)).trans (aY.out b hb s));have bf:Hid (Je wr A (ZH nb R) R.length):=Qa (y.out.map.heap (ak A y.out.map.lt (λe=>by have C:=y.out.mrole;rw [e,y.out.role] at C;have:=(Prod.mk.inj (Option.some.inj C)).2;omega)));have bF:=Qa aB;have bG:=Qa ak;clear b3 aB ak aT;go_wp2_with fail;have bH:Hid (ZH nb R (last+1)=none):=Qa (Qd8 (λn s=>by have:=(aQ n s).1;omega));go_still_tail 9,(by kernel_rfl);change wpList _ _ _ _ _ wr.drew;go_wp2_with (first|(at_mapUpdate;refine Qrl _ rfl _ _ _ rfl rfl (Je.heap (w':=wr.drew) (Qb bf) rfl) (by unfold maxLen;omega) (last+1) c ⟨by omega,by omega⟩ rfl rfl (Qb bH) ?_;intro w2 bI ae au));go_ret;have bJ:q≠A:=λe=>by have C:=y.out.mrole;rw [<- e,y.out.role] at C;have:=(Prod.mk.inj (Option.some.inj C)).2;omega
  have ck:=y.out.map.lt;have a4:∀ b,b<wr.heap.size->b≠A->w2.heap[b]?=wr.heap[b]?:=λb hb s=>ae.out.block b hb (λe=>s (Option.some.inj e));have c6:w2.heap.size=wr.heap.size:=au;have c7:=bo.out;have bg:=ar.out;refine Qi.added y.out bK bh aQ ba (n:={ id:=last+1,par:=0,tag:=tg,key:=B,text:=k,ats:=l,ao:=none,an:=0,ac:=0 }) rfl rfl (by omega) (by omega) (by omega) ⟨ae.out.os.trans (K.out.1.trans (J.out.os.trans av.out.1)),ae.out.tape.trans (K.out.2.1.trans (J.out.tape.trans av.out.2.1)),ae.out.output.trans (K.out.2.2.trans (J.out.output.trans av.out.2.2))⟩ (λb hb C c2=>(a4 b (by omega) c2).trans (bG.out b hb C)) ((a4 q (by omega) bJ).trans bF.out) bI.out ((a4 c W (by omega)).trans U.out) ?_ (λb e=>?_) (by show l.length<=5;omega) b9 (by show tg.size<=_;unfold maxLen;omega) (by show k.size<=_;unfold maxLen;omega) (λx N=>by have:=aW x N;unfold maxLen;omega)
  ·show World.ownsRow _ _ _ _ _ l.length _;rw [<- bg];exact QT (QuQ ad.out) λb e=>a4 b (ad.out.lt b e).2 (by have:=(ad.out.lt b e).1;omega)
  have:=ad.out.lt b e;exact ⟨by omega,by omega⟩
theorem Qqr (p:Qo) (nb:Int->Nat) (j:Nat) (r:Option Nat) (w:World) (q:Nat) (R:List RN) (last:Int) (h:Qi p nb j r w q R last) (k id pa bf c:Int) (tg nm d:ByteArray) (t:0<=last) (u:last<=4611686018427387904) (n:id≠last+1) : Xl 102 #[Xp q,.agg #[Xi k,Xi id,Xi pa,Xi bf,Xi c,.string tg,.string nm,.string d]] w λe w'=>e=.returned (.bool false)/\Xb w w':=by
 have l:=Qf h.blk 1 (.map (some j)) rfl;have m:=Qf h.blk 2 (Xi last) rfl;have g:=QN h.blk;have s:=h.few;have B:=Qa h;clear h;go_enter Tryz.func102,Tryz.ntmps102;go_wp2_with fail;generalize a:(w.alloc (.cells #[Xi k,Xi id,Xi pa,Xi bf,Xi c,.string tg,.string nm,.string d] 60)).alloc (.cells #[Xi 0,.string tg,Xi c,Xv,.string d] 47)=f;have b:=Xu a;have i:=X2 a;have C:=Xx a 1 (Xi id) rfl;have D:=Xy a 0 (Xi 0) rfl;have E:=Xy a 1 (.string tg) rfl;have F:=Xy a 2 (Xi c) rfl;have G:=Xy a 3 Xv rfl;have H:=Xy a 4 (.string d) rfl;have I:=(Xh b q 1 g).trans l;have J:=(Xh b q 2 g).trans m;have o:=Qa b;have v:=Qa i;have x:q<f.heap.size:=by omega
 have y:w.heap.size<f.heap.size:=by omega
 have z:w.heap.size+1<f.heap.size:=by omega
 clear a b i l m;have A:(id !=last+1)=true:=by simpa using n
 go_big_quiet (fail);go_wp2;go_ret;exact ⟨rfl,Ql o.out _⟩
theorem QqI (s:Qo) (nb:Int->Nat) (d:Nat) (t:Option Nat) (w:World) (q:Nat) (R:List RN) (last:Int) (h:Qi s nb d t w q R last) (m pa bf f:Int) (tg nm g:ByteArray) (y:0<=last) (z:last<=4611686018427387904) (u:800<=R.length) : Xl 102 #[Xp q,.agg #[Xi m,Xi (last+1),Xi pa,Xi bf,Xi f,.string tg,.string nm,.string g]] w λe w'=>e=.returned (.bool false)/\Xb w w':=by
 have o:=Qf h.blk 1 (.map (some d)) rfl;have p:=Qf h.blk 2 (Xi last) rfl;have j:=QN h.blk;have x:=h.few;have r:=Qa h;clear h;go_enter Tryz.func102,Tryz.ntmps102;go_wp2_with fail;generalize a:(w.alloc (.cells #[Xi m,Xi (last+1),Xi pa,Xi bf,Xi f,.string tg,.string nm,.string g] 60)).alloc (.cells #[Xi 0,.string tg,Xi f,Xv,.string g] 47)=b;have c:=Xu a;have k:=X2 a;have F:=Xx a 1 (Xi (last+1)) rfl;have G:=Xy a 0 (Xi 0) rfl;have H:=Xy a 1 (.string tg) rfl;have I:=Xy a 2 (Xi f) rfl;have J:=Xy a 3 Xv rfl;have K:=Xy a 4 (.string g) rfl;have L:=(Xh c q 1 j).trans o;have M:=(Xh c q 2 j).trans p;have l:=Qa c;have A:=Qa k;have B:q<b.heap.size:=by omega
 have C:w.heap.size<b.heap.size:=by omega
 have D:w.heap.size+1<b.heap.size:=by omega
 have v:∀ n i,(Builtin.len_ #[139] i #[.map (some d)]).run Tryz.prog (b.drewN n)=.ok (Xi R.length) (b.drewN n):=λn i=>(r.out.map.heap (w':=b.drewN n) (l.out.block d r.out.map.lt)).len i;clear a c k o p;have E:(800:Int)<=(R.length:Int):=by omega
 go_big_quiet (fail);go_wp2;go_ret;exact ⟨rfl,Ql l.out _⟩
theorem QsZ (G:Qo) (nb:Int->Nat) (g:Nat) (H:Option Nat) (w:World) (q:Nat) (R:List RN) (last:Int) (h:Qi G nb g H w q R last) (v id pa bf a:Int) (tg nm c:ByteArray) (P:0<=last) (S:last<=4611686018427387904) (n:tg.size<=maxLen) (o:c.size<=maxLen) (M:R.length<800) (p:id=last+1) (C:Q8 (Jt tg a c)=false) (D:Zz (Jt tg a c)=false) : Xl 102 #[Xp q,.agg #[Xi v,Xi id,Xi pa,Xi bf,Xi a,.string tg,.string nm,.string c]] w λe w'=>e=.returned (.bool false)/\Xb w w':=by
 have E:Hid (∀ w1,Xl 123 #[.agg #[Xi 0,.string tg,Xi a,Xv,.string c]] w1 λe w'=>e=.returned (.bool false)/\Xb w1 w'):=Qa λw1=>by have:=Qf9 (Jt tg a c) w1 (Qej w1 a n o);rw [C] at this;exact this
 have F:Hid (∀ w1,Xl 125 #[.agg #[Xi 0,.string tg,Xi a,Xv,.string c]] w1 λe w'=>e=.returned (.bool false)/\Xb w1 w'):=Qa λw1=>by have:=Qg9 (Jt tg a c) w1 (Qej w1 a n o);rw [D] at this;exact this
 have T:(id !=last+1)=false:=by rw [p];simp
 have K:IntKind.i64.wrap (last+1)=last+1:=by rw [IntKind.wrap_i64];omega
 clear p;have x:=Qf h.blk 1 (.map (some g)) rfl;have y:=Qf h.blk 2 (Xi last) rfl;have r:=QN h.blk;have N:=h.few;have l:=Qa h;clear h;go_enter Tryz.func102,Tryz.ntmps102;go_wp2_with fail;generalize f:(w.alloc (.cells #[Xi v,Xi id,Xi pa,Xi bf,Xi a,.string tg,.string nm,.string c] 60)).alloc (.cells #[Xi 0,.string tg,Xi a,Xv,.string c] 47)=j;have m:=Xu f;have s:=X2 f;have a1:=Xx f 1 (Xi id) rfl;have a2:=Xy f 0 (Xi 0) rfl;have a3:=Xy f 1 (.string tg) rfl;have a4:=Xy f 2 (Xi a) rfl;have a5:=Xy f 3 Xv rfl;have a6:=Xy f 4 (.string c) rfl;have a7:=(Xh m q 1 r).trans x;have a8:=(Xh m q 2 r).trans y;have k:=Qa m;have U:=Qa s;have V:q<j.heap.size:=by omega
 have W:w.heap.size<j.heap.size:=by omega
 have X:w.heap.size+1<j.heap.size:=by omega
 have L:∀ i,(Builtin.len_ #[139] i #[.map (some g)]).run Tryz.prog j.drew=.ok (Xi R.length) j.drew:=λi=>(l.out.map.heap (w':=j.drew) (k.out.block g l.out.map.lt)).len i;have t:Hid (∀ w1 w2,Xb w w1->Xb w1 w2->∀ i,(Builtin.len_ #[139] i #[.map (some g)]).run Tryz.prog w2=.ok (Xi R.length) w2):=Qa λw1 w2 z I i=>(l.out.map.heap (w':=w2) ((I.block g (Nat.lt_of_lt_of_le l.out.map.lt z.size)).trans (z.block g l.out.map.lt))).len i;have B:¬ (800:Int)<=(R.length:Int):=by omega
 have O:decide ((800:Int)<=(R.length:Int))=false:=decide_eq_false B;clear f m s x y
 go_region_held3 (λw'=>w'.cell? (Xa w.heap.size 1)=some (Xi id)/\w'.cell? (Xa q 2)=some (Xi last)/\w'.cell? (Xa q 1)=some (.map (some g))/\(∀ i,(Builtin.len_ #[139] i #[.map (some g)]).run Tryz.prog w'=.ok (Xi R.length) w')/\w'.cell? (Xa (w.heap.size+1) 0)=some (Xi 0)/\w'.cell? (Xa (w.heap.size+1) 1)=some (.string tg)/\w'.cell? (Xa (w.heap.size+1) 2)=some (Xi a)/\w'.cell? (Xa (w.heap.size+1) 3)=some Xv/\w'.cell? (Xa (w.heap.size+1) 4)=some (.string c))
   (first
     | go_keep
     | (go_split_ands
        refine ⟨?_,?_,?_,?_,?_,?_,?_,?_,?_⟩
        · (rw [b.cell (by simp;omega)];assumption)
        · (rw [b.cell (by simp;omega)];assumption)
        · (rw [b.cell (by simp;omega)];assumption)
        · exact Qb t _ _ (Qb k).drew b
        · (rw [b.cell (by simp;omega)];assumption)
        · (rw [b.cell (by simp;omega)];assumption)
        · (rw [b.cell (by simp;omega)];assumption)
        · (rw [b.cell (by simp;omega)];assumption)
        · (rw [b.cell (by simp;omega)];assumption))
     | (go_split_ands
        refine ⟨?_,?_,?_,?_,?_,?_,?_,?_,?_⟩
        · (rw [d.cell (by simp;omega)];assumption)
        · (rw [d.cell (by simp;omega)];assumption)
        · (rw [d.cell (by simp;omega)];assumption)
        · exact Qb t _ _ ((Qb k).drew.trans (b.mono (Qb k).size)) d
        · (rw [d.cell (by simp;omega)];assumption)
        · (rw [d.cell (by simp;omega)];assumption)
        · (rw [d.cell (by simp;omega)];assumption)
        · (rw [d.cell (by simp;omega)];assumption)
        · (rw [d.cell (by simp;omega)];assumption)))
   (first|(go_at_call 123;refine (Qb E _).mono ?_;rintro e A ⟨rfl,b⟩;have Y:j.heap.size<=A.heap.size:=b.size)|(go_at_call 125;refine (Qb F _).mono ?_;rintro e J ⟨rfl,d⟩;have a0:A.heap.size<=J.heap.size:=d.size))
 go_wp2;go_ret;have u:=k.out.drew.trans (b.mono k.out.size);exact ⟨rfl,u.trans (d.mono u.size)⟩
theorem Qrj (t:Qo) (nb:Int->Nat) (a:Nat) (u:Option Nat) (w:World) (q:Nat) (R:List RN) (last:Int) (h:Qi t nb a u w q R last) (I id pa bf c:Int) (tg nm b:ByteArray) (a6:0<=last) (a7:last<=4611686018427387904) (a8:tg.size<=maxLen) (a9:b.size<=maxLen) (a0:R.length<800) (ap:Qp R) (a1:∀ n,n ∈ R->n.id<=last/\0<=n.par/\n.par<=last) (a2:tg.size<=1000000) (a3:b.size<=1000000) (A:id=last+1) (aa:Q8 (Jt tg c b)=true) : Xl 102 #[Xp q,.agg #[Xi I,Xi id,Xi pa,Xi bf,Xi c,.string tg,.string nm,.string b]] w λe w'=>e=.returned (.bool true)/\∃ (l:Int->Nat) (ρ':Qo),(∀ i,i≠last+1->l i=nb i)/\w.heap.size<=l (last+1)/\QV t ρ' w w'/\Qi ρ' l a u w' q (R++[{ id:=last+1,par:=0,tag:=tg,key:=c,text:=b,ats:=[],ao:=none,an:=0,ac:=0 }]) (last+1):=by
 have ab:Hid (∀ w1,Xl 123 #[.agg #[Xi 0,.string tg,Xi c,Xv,.string b]] w1 λe w'=>e=.returned (.bool true)/\Xb w1 w'):=Qa λw1=>by have:=Qf9 (Jt tg c b) w1 (Qej w1 c a8 a9);rw [aa] at this;exact this
 have a4:Hid (∀ w1,Xb w w1->Xl 60 #[Xp q,.agg #[Xi 0,.string tg,Xi c,Xv,.string b]] w1 (Qgk t nb a u w1 q R last { id:=last+1,par:=0,tag:=tg,key:=c,text:=b,ats:=[],ao:=none,an:=0,ac:=0 })):=Qa λw1 hb=>Qil t nb a u w1 q R last (h.below hb) 0 c tg b none 0 0 [] rfl (by omega) List.Pairwise.nil (λj aq=>absurd aq (Nat.not_lt_zero _)) a6 a7 ap a1 a0 a2 a3 (λx ar=>by simp at ar);have aD:(id !=last+1)=false:=by rw [A];simp
 have aA:IntKind.i64.wrap (last+1)=last+1:=by rw [IntKind.wrap_i64];omega
 clear A;have J:=Qf h.blk 1 (.map (some a)) rfl;have K:=Qf h.blk 2 (Xi last) rfl;have B:=QN h.blk;have aB:=h.few;have o:=Qa h;clear h;go_enter Tryz.func102,Tryz.ntmps102;go_wp2_with fail;generalize g:(w.alloc (.cells #[Xi I,Xi id,Xi pa,Xi bf,Xi c,.string tg,.string nm,.string b] 60)).alloc (.cells #[Xi 0,.string tg,Xi c,Xv,.string b] 47)=k;have p:=Xu g;have C:=X2 g;have L:=Xx g 1 (Xi id) rfl;have M:=Xy g 0 (Xi 0) rfl;have N:=Xy g 1 (.string tg) rfl;have O:=Xy g 2 (Xi c) rfl;have P:=Xy g 3 Xv rfl;have T:=Xy g 4 (.string b) rfl;have U:=(Xh p q 1 B).trans J;have V:=(Xh p q 2 B).trans K;have r:=Qa p;have aE:=Qa C;have D:q<k.heap.size:=by omega
 have ad:w.heap.size<k.heap.size:=by omega
 have m:w.heap.size+1<k.heap.size:=by omega
 have Y:∀ d,(Builtin.len_ #[139] d #[.map (some a)]).run Tryz.prog k.drew=.ok (Xi R.length) k.drew:=λd=>(o.out.map.heap (w':=k.drew) (r.out.block a o.out.map.lt)).len d;have ae:Hid (∀ w1 w2,Xb w w1->Xb w1 w2->∀ d,(Builtin.len_ #[139] d #[.map (some a)]).run Tryz.prog w2=.ok (Xi R.length) w2):=Qa λw1 w2 W au d=>(o.out.map.heap (w':=w2) ((au.block a (Nat.lt_of_lt_of_le o.out.map.lt W.size)).trans (W.block a o.out.map.lt))).len d;have a5:¬ (800:Int)<=(R.length:Int):=by omega
 have aC:decide ((800:Int)<=(R.length:Int))=false:=decide_eq_false a5;clear g p C J K;have E:(λw'=>Xc w' w.heap.size 1 (Xi id)/\Xc w' q 2 (Xi last)/\Xc w' q 1 (.map (some a))/\(∀ d,(Builtin.len_ #[139] d #[.map (some a)]).run Tryz.prog w'=.ok (Xi R.length) w')/\Xc w' (w.heap.size+1) 0 (Xi 0)/\Xc w' (w.heap.size+1) 1 (.string tg)/\Xc w' (w.heap.size+1) 2 (Xi c)/\Xc w' (w.heap.size+1) 3 Xv/\Xc w' (w.heap.size+1) 4 (.string b)) k.drew:=⟨L,V,U,Y,M,N,O,P,T⟩;refine Zm (S:=(λw'=>w'.cell? (Xa w.heap.size 1)=some (Xi id)/\w'.cell? (Xa q 2)=some (Xi last)/\w'.cell? (Xa q 1)=some (.map (some a))/\(∀ d,(Builtin.len_ #[139] d #[.map (some a)]).run Tryz.prog w'=.ok (Xi R.length) w')/\w'.cell? (Xa (w.heap.size+1) 0)=some (Xi 0)/\w'.cell? (Xa (w.heap.size+1) 1)=some (.string tg)/\w'.cell? (Xa (w.heap.size+1) 2)=some (Xi c)/\w'.cell? (Xa (w.heap.size+1) 3)=some Xv/\w'.cell? (Xa (w.heap.size+1) 4)=some (.string b))) (by kernel_rfl) ?_;iterate 18
  apply Q0 ?_ E ?_;rotate_left
  ·(intro w' hSw;(try dsimp only at hSw);simp only [Xq];go_simp;try (with_reducible rfl))
  simp only [Xq,Xr]
 refine Qq 18 ?_;simp only [Xq];go_simp;refine (Qb ab _).mono ?_;rintro e z ⟨rfl,f⟩;have aF:k.heap.size<=z.heap.size:=f.size;have af:=(Xh f w.heap.size 1 ad).trans L;have ag:=(Xh f q 2 D).trans V;have ah:=(Xh f q 1 D).trans U;have av:=(Xh f (w.heap.size+1) 0 m).trans M;have aw:=(Xh f (w.heap.size+1) 1 m).trans N;have ax:=(Xh f (w.heap.size+1) 2 m).trans O;have ay:=(Xh f (w.heap.size+1) 3 m).trans P;have az:=(Xh f (w.heap.size+1) 4 m).trans T;have s:(λw'=>Xc w' w.heap.size 1 (Xi id)/\Xc w' q 2 (Xi last)/\Xc w' q 1 (.map (some a))/\(∀ d,(Builtin.len_ #[139] d #[.map (some a)]).run Tryz.prog w'=.ok (Xi R.length) w')/\Xc w' (w.heap.size+1) 0 (Xi 0)/\Xc w' (w.heap.size+1) 1 (.string tg)/\Xc w' (w.heap.size+1) 2 (Xi c)/\Xc w' (w.heap.size+1) 3 Xv/\Xc w' (w.heap.size+1) 4 (.string b)) z:=⟨af,ag,ah,Qb ae _ _ (Qb r).drew f,av,aw,ax,ay,az⟩;have y:Hid (Xb w z):=Qa (r.out.drew.trans (f.mono r.out.size));refine ⟨.inr s,?_⟩;clear f E;try simp only [Xr]
 refine Qq 19 ?_;simp only [Xq];go_simp;refine Qq 20 ?_;simp only [Xq];go_simp;refine Qe6 (i:=21) (v:=undef) rfl (by kernel_rfl) (by kernel_rfl) (by kernel_rfl) (by kernel_rfl) (λ_ _ _ h=>h) (Or.inr ⟨by rfl,rfl⟩) s ?_;try simp only [Xq,Xr]
 refine Qe6 (i:=22) (v:=undef) rfl (by kernel_rfl) (by kernel_rfl) (by kernel_rfl) (by kernel_rfl) (λ_ _ _ h=>h) (Or.inr ⟨by rfl,rfl⟩) s ?_;try simp only [Xq,Xr]
 refine Qe6 (i:=23) (v:=undef) rfl (by kernel_rfl) (by kernel_rfl) (by kernel_rfl) (by kernel_rfl) (λ_ _ _ h=>h) (Or.inr ⟨by rfl,rfl⟩) s ?_;try simp only [Xq,Xr]
 refine Qq 24 ?_;simp only [Xq];go_simp;refine Qq 25 ?_;simp only [Xq];go_simp;refine Zk (by kernel_rfl) ?_ _;go_wp2_with (first|(go_at_call 60;refine (Qb a4 _ (Qb y)).mono ?_;rintro e aG ⟨l,ρ',rfl,F,G,X,H⟩;have ai:=Qa F;have aj:=Qa G;have ak:=Qa X;have al:=Qa H;clear F G X H));go_ret;exact ⟨rfl,l,ρ',ai.out,Nat.le_trans y.out.size aj.out,ak.out.after y.out,al.out⟩
theorem Qsf (t:Qo) (nb:Int->Nat) (d:Nat) (u:Option Nat) (w:World) (q:Nat) (R:List RN) (last:Int) (h:Qi t nb d u w q R last) (J id pa bf a:Int) (tg nm b:ByteArray) (X:0<=last) (Y:last<=4611686018427387904) (z:tg.size<=maxLen) (A:b.size<=maxLen) (P:R.length<800) (a9:Qp R) (S:∀ n,n ∈ R->n.id<=last/\0<=n.par/\n.par<=last) (T:tg.size<=1000000) (U:b.size<=1000000) (B:id=last+1) (a0:Q8 (Jt tg a b)=false) (a1:Zz (Jt tg a b)=true) : Xl 102 #[Xp q,.agg #[Xi J,Xi id,Xi pa,Xi bf,Xi a,.string tg,.string nm,.string b]] w λe w'=>e=.returned (.bool true)/\∃ (p:Int->Nat) (ρ':Qo),(∀ i,i≠last+1->p i=nb i)/\w.heap.size<=p (last+1)/\QV t ρ' w w'/\Qi ρ' p d u w' q (R++[{ id:=last+1,par:=0,tag:=tg,key:=a,text:=b,ats:=[],ao:=none,an:=0,ac:=0 }]) (last+1):=by
 have a2:Hid (∀ w1,Xl 123 #[.agg #[Xi 0,.string tg,Xi a,Xv,.string b]] w1 λe w'=>e=.returned (.bool false)/\Xb w1 w'):=Qa λw1=>by have:=Qf9 (Jt tg a b) w1 (Qej w1 a z A);rw [a0] at this;exact this
 have a3:Hid (∀ w1,Xl 125 #[.agg #[Xi 0,.string tg,Xi a,Xv,.string b]] w1 λe w'=>e=.returned (.bool true)/\Xb w1 w'):=Qa λw1=>by have:=Qg9 (Jt tg a b) w1 (Qej w1 a z A);rw [a1] at this;exact this
 have V:Hid (∀ w1,Xb w w1->Xl 60 #[Xp q,.agg #[Xi 0,.string tg,Xi a,Xv,.string b]] w1 (Qgk t nb d u w1 q R last { id:=last+1,par:=0,tag:=tg,key:=a,text:=b,ats:=[],ao:=none,an:=0,ac:=0 })):=Qa λw1 hb=>Qil t nb d u w1 q R last (h.below hb) 0 a tg b none 0 0 [] rfl (by omega) List.Pairwise.nil (λj aa=>absurd aa (Nat.not_lt_zero _)) X Y a9 S P T U (λx ab=>by simp at ab);have aq:(id !=last+1)=false:=by rw [B];simp
 have aj:IntKind.i64.wrap (last+1)=last+1:=by rw [IntKind.wrap_i64];omega
 clear B;have K:=Qf h.blk 1 (.map (some d)) rfl;have L:=Qf h.blk 2 (Xi last) rfl;have C:=QN h.blk;have al:=h.few;have r:=Qa h;clear h;go_enter Tryz.func102,Tryz.ntmps102;go_wp2_with fail;generalize k:(w.alloc (.cells #[Xi J,Xi id,Xi pa,Xi bf,Xi a,.string tg,.string nm,.string b] 60)).alloc (.cells #[Xi 0,.string tg,Xi a,Xv,.string b] 47)=g;have s:=Xu k;have D:=X2 k;have ay:=Xx k 1 (Xi id) rfl;have ad:=Xy k 0 (Xi 0) rfl;have ae:=Xy k 1 (.string tg) rfl;have af:=Xy k 2 (Xi a) rfl;have ag:=Xy k 3 Xv rfl;have ah:=Xy k 4 (.string b) rfl;have az:=(Xh s q 1 C).trans K;have aA:=(Xh s q 2 C).trans L;have o:=Qa s;have ar:=Qa D;have au:q<g.heap.size:=by omega
 have av:w.heap.size<g.heap.size:=by omega
 have aw:w.heap.size+1<g.heap.size:=by omega
 have ak:∀ l,(Builtin.len_ #[139] l #[.map (some d)]).run Tryz.prog g.drew=.ok (Xi R.length) g.drew:=λl=>(r.out.map.heap (w':=g.drew) (o.out.block d r.out.map.lt)).len l;have E:Hid (∀ w1 w2,Xb w w1->Xb w1 w2->∀ l,(Builtin.len_ #[139] l #[.map (some d)]).run Tryz.prog w2=.ok (Xi R.length) w2):=Qa λw1 w2 M ai l=>(r.out.map.heap (w':=w2) ((ai.block d (Nat.lt_of_lt_of_le r.out.map.lt M.size)).trans (M.block d r.out.map.lt))).len l;have W:¬ (800:Int)<=(R.length:Int):=by omega
 have ap:decide ((800:Int)<=(R.length:Int))=false:=decide_eq_false W;clear k s D K L
 go_region_held3 (λw'=>w'.cell? (Xa w.heap.size 1)=some (Xi id)/\w'.cell? (Xa q 2)=some (Xi last)/\w'.cell? (Xa q 1)=some (.map (some d))/\(∀ l,(Builtin.len_ #[139] l #[.map (some d)]).run Tryz.prog w'=.ok (Xi R.length) w')/\w'.cell? (Xa (w.heap.size+1) 0)=some (Xi 0)/\w'.cell? (Xa (w.heap.size+1) 1)=some (.string tg)/\w'.cell? (Xa (w.heap.size+1) 2)=some (Xi a)/\w'.cell? (Xa (w.heap.size+1) 3)=some Xv/\w'.cell? (Xa (w.heap.size+1) 4)=some (.string b))
   (first
     | go_keep
     | (go_split_ands
        refine ⟨?_,?_,?_,?_,?_,?_,?_,?_,?_⟩
        · (rw [c.cell (by simp;omega)];assumption)
        · (rw [c.cell (by simp;omega)];assumption)
        · (rw [c.cell (by simp;omega)];assumption)
        · exact Qb E _ _ (Qb o).drew c
        · (rw [c.cell (by simp;omega)];assumption)
        · (rw [c.cell (by simp;omega)];assumption)
        · (rw [c.cell (by simp;omega)];assumption)
        · (rw [c.cell (by simp;omega)];assumption)
        · (rw [c.cell (by simp;omega)];assumption))
     | (go_split_ands
        refine ⟨?_,?_,?_,?_,?_,?_,?_,?_,?_⟩
        · (rw [f.cell (by simp;omega)];assumption)
        · (rw [f.cell (by simp;omega)];assumption)
        · (rw [f.cell (by simp;omega)];assumption)
        · exact Qb E _ _ ((Qb o).drew.trans (c.mono (Qb o).size)) f
        · (rw [f.cell (by simp;omega)];assumption)
        · (rw [f.cell (by simp;omega)];assumption)
        · (rw [f.cell (by simp;omega)];assumption)
        · (rw [f.cell (by simp;omega)];assumption)
        · (rw [f.cell (by simp;omega)];assumption)))
   (first|(go_at_call 123;refine (Qb a2 _).mono ?_;rintro e N ⟨rfl,c⟩;have a4:g.heap.size<=N.heap.size:=c.size)|(go_at_call 125;refine (Qb a3 _).mono ?_;rintro e y ⟨rfl,f⟩;have ax:N.heap.size<=y.heap.size:=f.size))
 have m:Xb g y:=(Below.refl g.heap.size g).drew.trans (c.trans (f.mono a4));have F:Xb w y:=o.out.trans (m.mono o.out.size);have aB:=(Xh m (w.heap.size+1) 0 (by (try simp);omega)).trans ad;have aC:=(Xh m (w.heap.size+1) 1 (by (try simp);omega)).trans ae;have aD:=(Xh m (w.heap.size+1) 2 (by (try simp);omega)).trans af;have aE:=(Xh m (w.heap.size+1) 3 (by (try simp);omega)).trans ag;have aF:=(Xh m (w.heap.size+1) 4 (by (try simp);omega)).trans ah;have v:=Qa F;clear F m;go_wp2_with (first|(go_at_call 60;refine (Qb V _ (Qb v)).mono ?_;rintro e aG ⟨p,ρ',rfl,G,H,O,I⟩;have a5:=Qa G;have a6:=Qa H;have a7:=Qa O;have a8:=Qa I;clear G H O I));go_ret;exact ⟨rfl,p,ρ',a5.out,Nat.le_trans v.out.size a6.out,a7.out.after v.out,a8.out⟩
end Go.Proofs.YtobgcaemnpkbmaaGreatDoor
