import Derived.Test.YtobgcaemnpkbmaaGreatY03
namespace Go.Proofs.YtobgcaemnpkbmaaGreat
set_option maxRecDepth 100000
set_option maxHeartbeats 8000000
open Go.RowKit List
variable {nm:ByteArray} {id last:Int} {l:List (ByteArray × ByteArray)} {W:List (Nat × Int)} {R R':List RN} {xs:List Value} {B B' i j k m n p size:Nat} {S:Nat->Prop} {ao:Option Addr} {e:TypeId} {q' v v':Value} {w w' w1 wr:World}
attribute [local go_sem ↓] Go.wp_at_zero Go.wp_at_succ
theorem QnL (w:World) (b:Array Value) (t:TypeId) (n:Nat) (c:n=w.heap.size):∀ a,some ((Xa n 0):Addr)=some a->∀ j u,b.toList[j]?=some u->(w.alloc (.cells b t)).cell? (a.add j)=some u:=by subst c;exact Q3 w b t
theorem QJ (w:World) (a:Addr) (u:Value):(w.setCell a u).heap.size=w.heap.size:=by simp [World.setCell]
theorem Qbl (d:w.ownsRow B e size v n xs) {a:Addr} {u:Value} (b:v.ownBlock=none \/ v.ownBlock≠some a.block):(w.setCell a u).ownsRow B e size v n xs := d.kept (row:=some a.block) ⟨rfl,rfl,rfl,by rw [QJ];exact X0,λk _ c=>X5 (λe=>c (by rw [e]))⟩ b
theorem Qey (i:n=l.length) (h:Zn w ao n (QP l) (Q6 l)):∀ x,x ∈ l->x.1.size<=maxLen/\x.2.size<=maxLen:=by
 intro x d;obtain ⟨j,a,rfl⟩:=Xa3 d;obtain ⟨_,_,_,_,_,_,b,c⟩:=h j (by omega);have f:QP l j=l[j].1:=by unfold QP;rw [Xg a];rfl
 have g:Q6 l j=l[j].2:=by unfold Q6;rw [Xg a];rfl
 rw [f] at b;rw [g] at c;exact ⟨b,c⟩
theorem Zz.base {q:Value} {N:List TN} (a:Zz B w q N) (c:B'<=B):Zz B' w q N := ⟨QbG a.row c,λn b=>⟨(a.node n b).an,(a.node n b).tag,(a.node n b).text,QbG (a.node n b).row c,(a.node n b).size,(a.node n b).ne⟩,a.far⟩
theorem Qy (b:w.ownsRow B e size v n xs):∃ ao c,v=.slice ao n c:=by
 rcases b.2 with ⟨rfl,rfl⟩|⟨g,a,d,rfl,_⟩
 ·exact ⟨none,0,rfl⟩
 exact ⟨_,a,rfl⟩
theorem Qh9 (b:ZV w w' Xv v'):Xb w w':=by have g:=b.by;exact ⟨g.os,g.tape,g.output,g.size,λk a=>g.block k a (by simp [Value.ownBlock])⟩
theorem Qw0 S p R last v w (D:Qq S w p R last v) (r f:Nat) (au:Qk R 1=(r:Int)) (bB:f<=1099511627776) (O:ZF R f r) (aO:(Qo R f r 0).length<=1099511627776) : Xl 27 #[Xp p] w λe w'=>∃ q N,e=.returned q/\Zz w.heap.size w' q N/\N.length=(Qo R f r 0).length/\(∀ i,(a7:i<(Qo R f r 0).length)->(b9:i<N.length)->Qfg R ((Qo R f r 0)[i]) (N[i]))/\Xb w w':=by
 obtain ⟨ba,a7,aS,aT,aU⟩:=info_parts Qcr;obtain ⟨bb,a8,aV,aW,aX⟩:=info_parts QiK;have ad:=QiH (d:=0) O;have aY:=Qa (λx bc=>QnP (d:=0) O x bc);have J:=D.c1;have X:=Qa D;have bC:=D.lt;have av:∀ w,Qq S w p R last v->Xl 48 #[Xp p,Xi r,Xi 0] w λe w'=>∃ z J m Y,e=.returned (.tuple #[Xe z (Qo R f r 0).length J,Xe m (Qo R f r 0).length Y]) /\ (Qo R f r 0).length<=J/\(Qo R f r 0).length<=Y/\z<w'.heap.size/\m<w'.heap.size/\(∀ k,(H:k<(Qo R f r 0).length)->w'.cell? (Xa z k)=some (Xi ((Qo R f r 0)[k].1:Nat))/\w'.cell? (Xa m k)=some (Xi ((Qo R f r 0)[k].2)))/\Xb w w':=by
  intro w a9;refine (Qhu S p R last v f r 0 w O (by omega) (by omega) aO a9).mono ?_;rintro e w' ⟨bD,J,bE,Y,rfl,aa⟩;obtain ⟨z,rfl,ae,_,a0,M⟩:=aa.o1.some (by rw [QcV];exact ad);obtain ⟨m,rfl,af,_,a1,aM⟩:=aa.o2.some (by rw [QeR];exact ad);refine ⟨z,J,m,Y,rfl,ae,af,a0,a1,λk H=>⟨?_,?_⟩,aa.bel⟩
  ·rw [M k (by rw [QcV];exact H)];unfold Qbd;rw [getElem?_map,getElem?_eq_getElem H];rfl
  rw [aM k (by rw [QeR];exact H)];unfold QbJ;rw [getElem?_map,getElem?_eq_getElem H];rfl
 have aw:=Qa av;have ax:∀ w,Qq S w p R last v->Xl 49 #[Xp p,Xi 1] w λe w'=>e=.returned (Xi r)/\w'=w:=by intro w a9;rw [<- au];exact QbP S p R last v 1 w a9
 have ay:=Qa ax;clear av ax D au O;generalize Qo R f r 0=c at *;go_enter Tryz.func27,Tryz.ntmps27;go_wp2_with (first|(go_at_call 49;refine (Qb ay _ (Qb X)).mono ?_;rintro e w1 ⟨rfl,rfl⟩)|(go_at_call 48;refine (Qb aw _ (Qb X)).mono ?_;rintro e w2 ⟨z,bF,m,bG,rfl,ae,af,a0,a1,M,a2⟩));have ag:=Qa M;have T:=Qa (X.out.below a2);have aZ:=T.out.lt;have a3:=Qa a2;clear M X aw ay J a2;go_loopw [5,6,7,8] (λbw i _ _ wr=>∃ (k:Nat) (q:Value) (N:List TN),k<=c.length/\i=Xi k/\q=bw/\Hid (N.length=k/\Zz w2.heap.size wr q N/\∀ i,(a7:i<c.length)->(b9:i<N.length)->Qfg R (c[i]) (N[i]))/\Xb w2 wr) (λ_ i _ _ _=>c.length-(intOf i).toNat);·exact ⟨0,_,[],X3,rfl,rfl,Qa ⟨rfl,Zz.nil _ _,λi _ D=>absurd D (Xb7 _)⟩,X4⟩
 case round =>
  obtain ⟨k,q,N,H,rfl,rfl,l,h⟩:=hrel;by_cases a4:k<c.length
  ·have C:=aY.out c[k] (Xa0 a4);obtain ⟨g,b0,rfl,bz,K,_,_,E⟩:=T.out.at (by omega);have az:=(Xh h p 0 aZ).trans T.out.c0;have aA:=(Xh h z k a0).trans (ag.out k a4).1;have L:=(Xh h m k a1).trans (ag.out k a4).2;have aB:Xc wr g (c[k].1*6) (Xi R[c[k].1].id):=(Xh h g (c[k].1*6) K).trans (E c[k].1 0 C (by omega));have bd:Xc wr g (c[k].1*6+1) (Xi R[c[k].1].par):=(Xh h g (c[k].1*6+1) K).trans (E c[k].1 1 C (by omega));have bf:Xc wr g (c[k].1*6+2) (.string R[c[k].1].tag):=(Xh h g (c[k].1*6+2) K).trans (E c[k].1 2 C (by omega));have bg:Xc wr g (c[k].1*6+3) (Xi R[c[k].1].key):=(Xh h g (c[k].1*6+3) K).trans (E c[k].1 3 C (by omega));have bh:Xc wr g (c[k].1*6+4) (.slice R[c[k].1].ao R[c[k].1].an R[c[k].1].ac):=(Xh h g (c[k].1*6+4) K).trans (E c[k].1 4 C (by omega));have bi:Xc wr g (c[k].1*6+5) (.string R[c[k].1].text):=(Xh h g (c[k].1*6+5) K).trans (E c[k].1 5 C (by omega));have bj:Hid (∀ n,n.d=c[k].2/\n.tag=R[c[k].1].tag/\n.key=R[c[k].1].key/\n.text=R[c[k].1].text/\n.ats=R[c[k].1].ats->Qfg R c[k] n):=Qa (λn D=>⟨C,D⟩);have F:=Qa ((T.out.node R[c[k].1] (Xa0 C)).below (h.mono X0));have bH:(0:Int)<=(k:Int):=by omega
   have bI:(k:Int)<(c.length:Int):=by omega
   clear E;generalize R[c[k].1]=b at *;generalize ah:c[k]=x at *;have b1:=Qa ah;clear ah;obtain ⟨A,B⟩:=x;simp only [] at *;have bJ:(0:Int)<=(A:Int):=by omega
   have bK:(A:Int)<(R.length:Int):=by omega
   have a5:=h.size;have bk:=Qa h;have bL:g<wr.heap.size:=by omega
   have bM:p<wr.heap.size:=by omega
   have bN:z<wr.heap.size:=by omega
   have bl:m<wr.heap.size:=by omega
   have bm:=World.new_ne wr _ az;have bn:=World.new_ne wr _ aA;have ab:=World.new_ne wr _ L;have bo:=World.new_ne wr _ aB;clear h;go_wp2;go_region_held3 (λw'=>w'.cell? (Xa p 0)=some (Xe g R.length b0)/\w'.cell? (Xa z k)=some (Xi A)/\w'.cell? (Xa g (A*6))=some (Xi b.id)/\w'.cell? (Xa g (A*6+1))=some (Xi b.par)/\w'.cell? (Xa g (A*6+2))=some (.string b.tag)/\w'.cell? (Xa g (A*6+3))=some (Xi b.key)/\w'.cell? (Xa g (A*6+4))=some (.slice b.ao b.an b.ac)/\w'.cell? (Xa g (A*6+5))=some (.string b.text)) (go_keep) (fail);go_wp2_with fail;generalize G:(wr.alloc (.cells #[Xi b.id,Xi b.par,.string b.tag,Xi b.key,.slice b.ao b.an b.ac,.string b.text] 91)).drew=w3;have U:Xb wr w3:=by rw [<- G];exact Xd.drew
   have I:w3.heap.size=wr.heap.size+1:=by rw [<- G];simp
   have aC:w3.cell? (Xa wr.heap.size 2)=some (.string b.tag):=by rw [<- G];simp [go_sem]
   have bp:w3.cell? (Xa wr.heap.size 3)=some (Xi b.key):=by rw [<- G];simp [go_sem]
   have aD:w3.cell? (Xa wr.heap.size 4)=some (.slice b.ao b.an b.ac):=by rw [<- G];simp [go_sem]
   have bq:w3.cell? (Xa wr.heap.size 5)=some (.string b.text):=by rw [<- G];simp [go_sem]
   have aE:=(Xh U m k bl).trans L;have ai:=Qa (F.out.below U);have aj:=Qa U;clear G U az aA L aB bd bf bg bh bi bm bn ab bo;have ab:=World.new_ne w3 _ aE;have br:=World.new_ne w3 _ aC;go_region_held3 (λw'=>w'.cell? (Xa m k)=some (Xi B)/\w'.cell? (Xa wr.heap.size 2)=some (.string b.tag)/\w'.cell? (Xa wr.heap.size 3)=some (Xi b.key)/\w'.cell? (Xa wr.heap.size 5)=some (.string b.text)) (go_keep) (fail);generalize t:(w3.alloc (.cells #[Xi B,.string b.tag,Xi b.key,Xv,.string b.text] 33)).drew=w4;have V:Xb w3 w4:=by rw [<- t];exact Xd.drew
   have bO:w4.heap.size=wr.heap.size+2:=by rw [<- t];simp [I]
   have aF:w4.cell? (Xa (wr.heap.size+1) 0)=some (Xi B):=by rw [<- t,<- I];simp [go_sem]
   have aG:w4.cell? (Xa (wr.heap.size+1) 1)=some (.string b.tag):=by rw [<- t,<- I];simp [go_sem]
   have aH:w4.cell? (Xa (wr.heap.size+1) 2)=some (Xi b.key):=by rw [<- t,<- I];simp [go_sem]
   have aI:w4.cell? (Xa (wr.heap.size+1) 3)=some Xv:=by rw [<- t,<- I];simp [go_sem]
   have aJ:w4.cell? (Xa (wr.heap.size+1) 4)=some (.string b.text):=by rw [<- t,<- I];simp [go_sem]
   have aK:w4.frozen? (Xa (wr.heap.size+1) 3)=false:=by rw [<- t,<- I];simp [go_sem]
   have bP:=(Xh V wr.heap.size 4 (by (try simp);omega)).trans aD;have W:=Qa (ai.out.below V);have b2:=Qa (aj.out.trans (V.mono (by omega)));have aP:=F.out.few;have bA:N.length<=c.length:=by rw [l.out.1];exact H
   clear t V aC bp aD bq aE ab br aj ai;have bx:b.an<=5:=aP;have aQ:Hid (w4.ownsRow wr.heap.size 72 2 Xv 0 []):=Qa (Xc0 _ _ _ _);go_wp2_with (first|(at_builtin;refine Zp _ rfl (.tmp 48) (.tmp 50) 31 rfl wr.heap.size 72 ba _ 2 32 Tryz.underlying31 a7 aS aT aU rfl Xv 0 [] rfl (Qb aQ) b.ao b.an b.ac (QS b.ats) rfl (Qb W).nil (by rw [Qei,(Qb W).an]) (QhQ (Qb W).an (Qb W).at') (QeC _) (by omega) (by omega) (by omega) ?_;intro bQ bs ak al _;have P:=Qb ak;rw [Nat.zero_add,nil_append] at P;clear ak;obtain ⟨o,s,rfl⟩:=Qy P;have b3:=Qa P;clear P;have y:=Qh9 (Qb al);have bR:=y.size;have v0:=(Xh y (wr.heap.size+1) 0 (by (try simp);omega)).trans aF;have bS:=(Xh y (wr.heap.size+1) 1 (by (try simp);omega)).trans aG;have bT:=(Xh y (wr.heap.size+1) 2 (by (try simp);omega)).trans aH;have bU:=(Xh y (wr.heap.size+1) 3 (by (try simp);omega)).trans aI;have v4:=(Xh y (wr.heap.size+1) 4 (by (try simp);omega)).trans aJ;have bV:=(Xj y (wr.heap.size+1) 3 (by (try simp);omega)).trans aK;have ap:=Qa (((Qb b2).trans (y.mono (by omega))).setCell (p:=(Xa (wr.heap.size+1) 3)) (by simp) (.slice o b.an s));clear y aF aG aH aI aJ aK)|(at_builtin;refine Zp _ rfl (.tmp 53) (.tmp 55) 24 rfl w2.heap.size 33 bb _ 5 72 Tryz.underlying24 a8 aV aW aX rfl q _ _ rfl ((QX (Qb l).2.1.row (Qb ap)).alloc _) (some (Xa bs.heap.size 0)) 1 1 [Xi B,.string b.tag,Xi b.key,.slice o b.an s,.string b.text] rfl (by simp) rfl (QnL _ _ _ _ (by simp)) (by simp [Value.oneCell']) (by omega) (by omega) (by simp;omega) ?_;intro bW bt b4 aq _));have a6:=Qa ((ap.out).alloc (by rw [QJ];omega) (.cells #[Xi B,.string b.tag,Xi b.key,.slice o b.an s,.string b.text] 33));have aR:Value.ownBlock (.slice o b.an s)=none \/ Value.ownBlock (.slice o b.an s)≠some (wr.heap.size+1):=by
    rcases al.out.at with e|e
    ·exact .inl e
    right;rw [e];intro L;have:=Xb5 L;omega
   have aN:=(Qbl b3.out (a:=(Xa (wr.heap.size+1) 3)) (u:=.slice o b.an s) aR).alloc (.cells #[Xi B,.string b.tag,Xi b.key,.slice o b.an s,.string b.text] 33);have bu:=Qa (l.out.2.1.more (n:=⟨B,b.tag,b.key,b.text,b.ats,o,b.an,s⟩) a5 a6.out F.out.an F.out.tag F.out.text aN (Qey F.out.an F.out.at') b4.out aq.out);have b5:=Qa (bj.out ⟨B,b.tag,b.key,b.text,b.ats,o,b.an,s⟩ ⟨rfl,rfl,rfl,rfl,rfl⟩);have b6:Hid (Xb w2 bt):=Qa ((bk.out.trans (a6.out.mono a5)).grown aq.out.by (Xb6 a5 a6.out.size) (λj a8=>(l.out.2.1.row.lt j a8).1));go_roundw
   ·refine ⟨k+1,_,N++[⟨B,b.tag,b.key,b.text,b.ats,o,b.an,s⟩],by omega,by go_num,rfl,Qa ⟨by rw [length_append,l.out.1];rfl,bu.out,λi bv aL=>?_⟩,b6.out⟩;by_cases ar:i<N.length
    ·rw [getElem_append_left ar];exact l.out.2.2 i bv ar
    have b7:i=k:=by have:=l.out.1;rw [length_append] at aL;simp at aL;omega
    subst b7;rw [getElem_append_right (by omega)];have e:=b1.out;rw [e];simpa using b5.out
   simp [intOf];omega
  have b8:k=c.length:=by omega
  subst b8;go_wp2;go_ret;exact ⟨q,N,rfl,l.out.2.1.base a3.out.size,l.out.1,l.out.2.2,a3.out.trans (h.mono a3.out.size)⟩
attribute [local go_sem ↓] Go.wp_at_zero Go.wp_at_succ
theorem Qqf (d:Int) (t:ByteArray) (g:Int) (x:ByteArray) h j (n l m:Nat) nm vl w (F:n<=maxLen) (u:Zn w h n nm vl) (v:Zn w j n nm vl) : Xl 47 #[.agg #[Xi d,.string t,Xi g,.slice h n l,.string x],.agg #[Xi d,.string t,Xi g,.slice j n m,.string x]] w λe w'=>e=.returned (.bool true)/\Xb w w':=by
 unfold maxLen at F;have G:=Qa u;have H:=Qa v;clear u v;go_enter Tryz.func47,Tryz.ntmps47;go_wp2;generalize b:(w.alloc (.cells #[Xi d,.string t,Xi g,.slice h n l,.string x] 33)).alloc (.cells #[Xi d,.string t,Xi g,.slice j n m,.string x] 33)=w2;have o:=Xu b;have J:w.heap.size+1<w2.heap.size:=by rw [<- b];simp
 have q3:=Xx b 3 (.slice h n l) rfl;have I:=Xy b 3 (.slice j n m) rfl;have f:=Qa o;clear b o;go_loopw [5] (λi wr=>∃ k:Nat,k<=n/\i=Xi k/\Xb w2 wr) (λi _=>n-(intOf i).toNat);·exact ⟨0,X3,rfl,X4⟩
 case round =>
  obtain ⟨k,K,rfl,a⟩:=hrel;have L:=(Xh a w.heap.size 3 (by (try simp);omega)).trans q3;have M:=(Xh a (w.heap.size+1) 3 (by (try simp);omega)).trans I;by_cases p:k<n
  ·obtain ⟨y,z,rfl,q,A,r,_,_⟩:=G.out k p;obtain ⟨B,C,rfl,s,D,E,_,_⟩:=H.out k p;have c:=f.out.trans (a.mono f.out.size);have N:=(Xh c y (z+k*2) q).trans A;have O:=(Xh c y (z+k*2+1) q).trans r;have P:=(Xh c B (C+k*2) s).trans D;have R:=(Xh c B (C+k*2+1) s).trans E;have S:(0:Int)<=(k:Int):=by omega
   have T:(k:Int)<(n:Int):=by omega
   clear A r D E c;generalize nm k=U at *;generalize vl k=V at *;go_wp2;go_big_quiet (fail);go_wp2;go_roundw;·exact ⟨k+1,by omega,by go_num,Qv a _⟩
   simp [intOf];omega
  go_wp2;go_ret;exact ⟨rfl,f.out.trans (a.mono f.out.size)⟩
theorem Qnu y z (n K N:Nat) L M w (O:n<=maxLen) (C:Jp w y n L) (D:Jp w z n M) (E:∀ i,i<n->(L i).d=(M i).d/\(L i).t=(M i).t/\(L i).k=(M i).k/\(L i).x=(M i).x/\(L i).an=(M i).an/\(L i).nm=(M i).nm/\(L i).vl=(M i).vl) : Xl 26 #[.slice y n K,.slice z n N] w λe w'=>e=.returned (.bool true)/\Xb w w':=by
 unfold maxLen at O;have F:=Qa C;have G:=Qa D;have P:=Qa E;clear C D E;go_enter Tryz.func26,Tryz.ntmps26;go_wp2;go_loopw [5,6] (λi _ wr=>∃ k:Nat,k<=n/\i=Xi k/\Xb w wr) (λi _ _=>n-(intOf i).toNat);·exact ⟨0,X3,rfl,X4⟩
 case round =>
  obtain ⟨k,X,rfl,a⟩:=hrel;by_cases l:k<n
  ·obtain ⟨b,f,rfl,p⟩:=F.out (by omega);obtain ⟨c,g,rfl,q⟩:=G.out (by omega);have h:=p.lt;have j:=q.lt;have A:=p.node k l;have B:=q.node k l;obtain ⟨u0,u1,u2,u3,u4,u5,u6⟩:=P.out k l;have R:=(Xh a b (f+k*5) h).trans A.c0;have S:=(Xh a b (f+k*5+1) h).trans A.c1;have T:=(Xh a b (f+k*5+2) h).trans A.c2;have U:=(Xh a b (f+k*5+3) h).trans A.c3;have V:=(Xh a b (f+k*5+4) h).trans A.c4;have Y:=(Xh a c (g+k*5) j).trans B.c0;have a0:=(Xh a c (g+k*5+1) j).trans B.c1;have a1:=(Xh a c (g+k*5+2) j).trans B.c2;have a2:=(Xh a c (g+k*5+3) j).trans B.c3;have a3:=(Xh a c (g+k*5+4) j).trans B.c4;have r:=Qa (A.ok.at'.below a);have W:=Qa (B.ok.at'.below a);have s:=Qa A.ok.an;rw [u0] at R;rw [u1] at S;rw [u2] at T;rw [u4] at U r s;rw [u3] at V;rw [u5,u6] at r;clear u0 u1 u2 u3 u4 u5 u6 A B p q F G;generalize (L k).ao=u at *;generalize (L k).ac=v at *;generalize M k=m at *;have a4:(0:Int)<=(k:Int):=by omega
   have a5:(k:Int)<(n:Int):=by omega
   have I:=a.size;have H:=Qa a;have a6:b<wr.heap.size:=by omega
   have a7:c<wr.heap.size:=by omega
   clear a;go_wp2_with fail
   go_region_held3 (λw'=>w'.cell? (Xa b (f+k*5))=some (Xi m.d)/\w'.cell? (Xa b (f+k*5+1))=some (.string m.t)/\w'.cell? (Xa b (f+k*5+2))=some (Xi m.k)/\w'.cell? (Xa b (f+k*5+3))=some (.slice u m.an v)/\w'.cell? (Xa b (f+k*5+4))=some (.string m.x) /\
       w'.cell? (Xa c (g+k*5))=some (Xi m.d)/\w'.cell? (Xa c (g+k*5+1))=some (.string m.t)/\w'.cell? (Xa c (g+k*5+2))=some (Xi m.k)/\w'.cell? (Xa c (g+k*5+3))=some (.slice m.ao m.an m.ac)/\w'.cell? (Xa c (g+k*5+4))=some (.string m.x))
     (first
       | go_keep
       | (go_split_ands
          refine ⟨?_,?_,?_,?_,?_,?_,?_,?_,?_,?_⟩<;>(rw [o.cell (by simp;omega)];assumption)))
     ((go_at_call 47;refine (Qqf m.d m.t m.k m.x u m.ao m.an v m.ac m.nm m.vl _ (Qb s) ((Qb r).below X4.drew) ((Qb W).below X4.drew)).mono ?_;rintro e a8 ⟨rfl,o⟩))
   have J:=H.out.trans (((Below.refl wr.heap.size wr).drew.trans o).mono I);clear o;go_wp2;go_roundw;·exact ⟨k+1,by omega,by go_num,J⟩
   simp [intOf];omega
  go_wp2;go_ret;exact ⟨rfl,a⟩
def ZL (a b:ByteArray):Bool:=a.toList==b.toList
def Qa1 (l:List (ByteArray × ByteArray)) (k:Nat):ByteArray × ByteArray:=l.getD k (ByteArray.empty,ByteArray.empty)
theorem Qcg (a:k<l.length):Qa1 l k=l[k]:=by unfold Qa1;rw [Xg a];rfl
def QbI (l:List (ByteArray × ByteArray)) (nm:ByteArray) (k:Nat):List (ByteArray × ByteArray):=(l.take k).filter λx=>!ZL x.1 nm
def QI (l:List (ByteArray × ByteArray)) (nm:ByteArray):List (ByteArray × ByteArray):=l.filter λx=>!ZL x.1 nm
theorem QjY (l:List (ByteArray × ByteArray)) (nm:ByteArray):QbI l nm l.length=QI l nm:=by unfold QbI QI;simp
theorem QlL (a:k<l.length) (b:ZL l[k].1 nm=false):QbI l nm (k+1)=QbI l nm k++[l[k]]:=by unfold QbI;rw [take_succ_eq_append_getElem a,filter_append];simp [b]
theorem Qk3 (a:k<l.length) (b:ZL l[k].1 nm=true):QbI l nm (k+1)=QbI l nm k:=by unfold QbI;rw [take_succ_eq_append_getElem a,filter_append];simp [b]
theorem Quf (l:List (ByteArray × ByteArray)) (nm:ByteArray) (k:Nat):(QbI l nm k).length<=l.length:=by unfold QbI;exact Xb6 (length_filter_le _ _) (by simp;omega)
theorem Qub (l:List (ByteArray × ByteArray)) (x:ByteArray × ByteArray):QS (l++[x])=QS l++[.string x.1,.string x.2]:=by unfold QS;simp
theorem Qms (a:j<l.length):QP l j=l[j].1:=by unfold QP;rw [Xg a];rfl
theorem QlY (a:j<l.length):Q6 l j=l[j].2:=by unfold Q6;rw [Xg a];rfl
def Jg (w:World) (B:Nat) (v:Value) (l:List (ByteArray × ByteArray)):Prop:=w.ownsRow B 72 2 v l.length (QS l)
theorem Jg.of_app {x:ByteArray × ByteArray} (a:w.ownsRow B 72 2 v (l.length+1) (QS l++[.string x.1,.string x.2])):Jg w B v (l++[x]):=by unfold Jg;rw [Qub,length_append];exact a
theorem Qe2 ao (n c:Nat) (l:List (ByteArray × ByteArray)) (nm:ByteArray) w (y:n=l.length) (T:n<=1000000) (z:Zn w ao n (QP l) (Q6 l)) : Xl 57 #[.slice ao n c,.string nm] w λe w'=>∃ q,e=.returned q/\Jg w' w.heap.size q (QI l nm)/\Xb w w':=by
 obtain ⟨K,L,E,F,G⟩:=info_parts Qcr;have M:=Qa z;have o:=Qa y;clear z y;go_enter Tryz.func57,Tryz.ntmps57;go_wp2;go_loopw [5,6] (λm i wr=>∃ (k:Nat) (q:Value),k<=n/\i=Xi k/\q=m/\Hid (Jg wr w.heap.size q (QbI l nm k))/\Xb w wr) (λ_ i _=>n-(intOf i).toNat);·exact ⟨0,_,X3,rfl,rfl,Qa (show Jg _ _ _ [] from Xc0 _ _ _ _),X4⟩
 case round =>
  obtain ⟨k,q,U,rfl,rfl,a,d⟩:=hrel;by_cases s:k<n
  ·have h:k<l.length:=by rw [<- o.out];exact s
   obtain ⟨b,m,rfl,A,B,C,_,_⟩:=M.out k s;have N:=(Xh d b (m+k*2) A).trans B;have O:=(Xh d b (m+k*2+1) A).trans C;rw [Qms h] at N;rw [QlY h] at O;have H:=d.size;have I:=Quf l nm k;rw [<- o.out] at I;clear B C;cases f:ZL l[k].1 nm with
   | true =>
    have g:=Qa (Qk3 h f);have P:(l[k].1.toList==nm.toList)=true:=f;rw [<- g.out] at a;clear f g;generalize l[k]=x at *;go_wp2;go_roundw;·exact ⟨k+1,_,by omega,by go_num,rfl,a,d⟩
    simp [intOf];omega
   | false =>
    have g:=Qa (QlL h f);have P:(l[k].1.toList==nm.toList)=false:=f;clear f;generalize l[k]=x at *;obtain ⟨p,r⟩:=x;simp only [] at *;have S:b≠wr.heap.size:=by omega
    go_wp2_with ((at_builtin;refine Zp _ rfl (.tmp 20) (.tmp 25) 31 rfl w.heap.size 72 K _ 2 32 Tryz.underlying31 L E F G rfl q _ _ rfl ((Qb a).alloc _) (some (Xa wr.heap.size 0)) 1 1 [.string p,.string r] rfl (by simp) rfl (Q3 _ _ _) (by simp [Value.oneCell']) (by omega) (by omega) (by simp;omega) ?_;intro V w1 t u _));have J:=(d.alloc H (.cells #[.string p,.string r] 72)).grown u.out.by (by simp;omega) (λj R=>(World.ownsRow.lt (Qb a) j R).1);have D:=Qa (Jg.of_app (x:=(p,r)) t.out);rw [<- g.out] at D;clear t u a;go_wp2;go_roundw;·exact ⟨k+1,_,by omega,by go_num,rfl,D,J⟩
    simp [intOf];omega
  have v:k=l.length:=by rw [<- o.out];omega
  have g:=Qa (QjY l nm);rw [v,g.out] at a;clear v;go_wp2;go_ret;exact ⟨_,rfl,a.out,d⟩
def Zy (l:List (ByteArray × ByteArray)) (nm vl:ByteArray):Nat->List (ByteArray × ByteArray) × Bool
 | 0=>([],false)
 | k+1 =>
  let r:=Zy l nm vl k
  let a:=if r.2=false/\Op.bytesLess (Qa1 l k).1.toList nm.toList=false then r.1++[(nm,vl)] else r.1
  (if ZL (Qa1 l k).1 nm then a else a++[Qa1 l k],r.2||!Op.bytesLess (Qa1 l k).1.toList nm.toList)
def QQ (l:List (ByteArray × ByteArray)) (nm vl:ByteArray):List (ByteArray × ByteArray):=if (Zy l nm vl l.length).2 then (Zy l nm vl l.length).1 else (Zy l nm vl l.length).1++[(nm,vl)]
theorem Qpm (l:List (ByteArray × ByteArray)) (nm vl:ByteArray):∀ k,(Zy l nm vl k).1.length<=2*k:=by intro k;induction k with| zero=>exact X0| succ k ih =>rw [Zy];simp only [];split<;>split<;>(try simp only [length_append,length_singleton])<;>omega
theorem QgD {q:Value} {f:Obj} {p:Addr} (a:Hid (Jg wr w.heap.size q l)) (b:p.block<wr.heap.size) (g:p.block<w.heap.size) (c:Hid (ZV (wr.alloc f) w1 q q')):w1.cell? p=wr.cell? p:=by have d:=c.out.by.cell_far p (by simp;omega) (λe=>by have:=(World.ownsRow.lt a.out p.block e.symm).1;omega);rw [d];exact Xb3 (Xc1 _ _ _ b)
theorem QmY ao (n c:Nat) (l:List (ByteArray × ByteArray)) (nm vl:ByteArray) w (T:n=l.length) (ab:n<=1000000) (U:Zn w ao n (QP l) (Q6 l)) : Xl 58 #[.slice ao n c,.string nm,.string vl] w λe w'=>∃ q,e=.returned q/\Jg w' w.heap.size q (QQ l nm vl)/\Xb w w':=by
 obtain ⟨C,D,y,z,A⟩:=info_parts Qcr;have a3:=Qa U;have V:=Qa T;clear U T;go_enter Tryz.func58,Tryz.ntmps58;go_wp2;go_loopw [7,8,9] (λJ b i wr=>∃ (k:Nat) (q:Value) (L:List (ByteArray × ByteArray)) (d:Bool),k<=n/\i=Xi k/\q=J/\b=.bool d/\Hid (Zy l nm vl k=(L,d))/\Hid (Jg wr w.heap.size q L)/\Xb w wr) (λ_ _ i _=>n-(intOf i).toNat);·exact ⟨0,_,[],false,X3,rfl,rfl,rfl,rfl,Qa (show Jg _ _ _ [] from Xc0 _ _ _ _),X4⟩
 case round =>
  obtain ⟨k,q,L,d,ac,rfl,rfl,rfl,v,a,r⟩:=hrel;have a8:L.length<=2*k:=by have:=Qpm l nm vl k;rw [v.out] at this;exact this
  by_cases O:k<n
  ·have K:k<l.length:=by rw [<- V.out];exact O
   obtain ⟨b,J,rfl,E,W,X,_,_⟩:=a3.out k O;have G:=(Xh r b (J+k*2) E).trans W;have H:=(Xh r b (J+k*2+1) E).trans X;rw [Qms K] at G;rw [QlY K] at H;have B:=r.size;clear W X;have m:Hid (Zy l nm vl (k+1)=(if ZL l[k].1 nm then (if d=false/\Op.bytesLess l[k].1.toList nm.toList=false then L++[(nm,vl)] else L) else (if d=false/\Op.bytesLess l[k].1.toList nm.toList=false then L++[(nm,vl)] else L)++[l[k]],d||!Op.bytesLess l[k].1.toList nm.toList)):=by refine Qa ?_;rw [Zy,v.out,Qcg K]
   generalize l[k]=x at *;obtain ⟨g,o⟩:=x;simp only [] at *;have a9:b≠wr.heap.size:=by omega
   have I:b<wr.heap.size:=by omega
   clear v;cases a4:Op.bytesLess g.toList nm.toList<;>cases M:ZL g nm<;>cases d
   all_goals rw [a4,M] at m;have a5:=M;unfold ZL at a5;clear M
   ·have p:Hid (Zy l nm vl (k+1)=(L++[(nm,vl)]++[(g,o)],true)):=by simpa [Hid] using m
    clear m;have aa:(L++[(nm,vl)]).length<=2*k+1:=by simp;omega
    go_wp2_with (first|(at_builtin;refine Zp _ rfl (.tmp 27) (.tmp 31) 31 rfl w.heap.size 72 C _ 2 32 Tryz.underlying31 D y z A rfl q _ _ rfl ((Qb a).alloc _) (some (Xa wr.heap.size 0)) 1 1 [.string nm,.string vl] rfl (by simp) rfl (Q3 _ _ _) (by simp [Value.oneCell']) (by omega) (by omega) (by simp;omega) ?_;intro F w1 h f _;have s:=Qa ((r.alloc B (.cells #[.string nm,.string vl] 72)).grown (Qb f).by (by simp;omega) (λj t=>(World.ownsRow.lt (Qb a) j t).1));have u:=Qa (Jg.of_app (x:=(nm,vl)) (Qb h));have a6:=(QgD a I E f).trans G;have a7:=(QgD a I E f).trans H;have Y:=(Qb s).size;have a0:b≠w1.heap.size:=(by omega);clear h f G H)|(at_builtin;refine Zp _ rfl (.tmp 40) (.tmp 45) 31 rfl w.heap.size 72 C _ 2 32 Tryz.underlying31 D y z A rfl F _ _ rfl ((Qb u).alloc _) (some (Xa w1.heap.size 0)) 1 1 [.string g,.string o] rfl (by simp) rfl (Q3 _ _ _) (by simp [Value.oneCell']) (by omega) (by omega) (by simp;omega) ?_;intro q2 w2 P R _));have a1:=((Qb s).alloc Y (.cells #[.string g,.string o] 72)).grown R.out.by (by simp;omega) (λj t=>(World.ownsRow.lt (Qb u) j t).1);have a2:=Qa (Jg.of_app (x:=(g,o)) P.out);clear P R u a;go_wp2;go_roundw;·exact ⟨k+1,_,_,_,by omega,by go_num,rfl,rfl,p,a2,a1⟩
    simp [intOf];omega
   ·have p:Hid (Zy l nm vl (k+1)=(L++[(g,o)],true)):=by simpa [Hid] using m
    clear m;go_wp2_with ((at_builtin;refine Zp _ rfl (.tmp 40) (.tmp 45) 31 rfl w.heap.size 72 C _ 2 32 Tryz.underlying31 D y z A rfl q _ _ rfl ((Qb a).alloc _) (some (Xa wr.heap.size 0)) 1 1 [.string g,.string o] rfl (by simp) rfl (Q3 _ _ _) (by simp [Value.oneCell']) (by omega) (by omega) (by simp;omega) ?_;intro F w1 h f _));have s:=(r.alloc B (.cells #[.string g,.string o] 72)).grown f.out.by (by simp;omega) (λj t=>(World.ownsRow.lt (Qb a) j t).1);have u:=Qa (Jg.of_app (x:=(g,o)) h.out);clear h f a;go_wp2;go_roundw;·exact ⟨k+1,_,_,_,by omega,by go_num,rfl,rfl,p,u,s⟩
    simp [intOf];omega
   ·have p:Hid (Zy l nm vl (k+1)=(L++[(nm,vl)],true)):=by simpa [Hid] using m
    clear m;go_wp2_with ((at_builtin;refine Zp _ rfl (.tmp 27) (.tmp 31) 31 rfl w.heap.size 72 C _ 2 32 Tryz.underlying31 D y z A rfl q _ _ rfl ((Qb a).alloc _) (some (Xa wr.heap.size 0)) 1 1 [.string nm,.string vl] rfl (by simp) rfl (Q3 _ _ _) (by simp [Value.oneCell']) (by omega) (by omega) (by simp;omega) ?_;intro F w1 h f _;have s:=Qa ((r.alloc B (.cells #[.string nm,.string vl] 72)).grown (Qb f).by (by simp;omega) (λj t=>(World.ownsRow.lt (Qb a) j t).1));have u:=Qa (Jg.of_app (x:=(nm,vl)) (Qb h));have a6:=(QgD a I E f).trans G;have a7:=(QgD a I E f).trans H;have Y:=(Qb s).size;have a0:b≠w1.heap.size:=(by omega);clear h f G H));go_wp2;go_roundw;·exact ⟨k+1,_,_,_,by omega,by go_num,rfl,rfl,p,u,s.out⟩
    simp [intOf];omega
   ·have p:Hid (Zy l nm vl (k+1)=(L,true)):=by simpa [Hid] using m
    clear m;go_wp2;go_roundw;·exact ⟨k+1,_,_,_,by omega,by go_num,rfl,rfl,p,a,r⟩
    simp [intOf];omega
   ·have p:Hid (Zy l nm vl (k+1)=(L++[(g,o)],false)):=by simpa [Hid] using m
    clear m;go_wp2_with ((at_builtin;refine Zp _ rfl (.tmp 40) (.tmp 45) 31 rfl w.heap.size 72 C _ 2 32 Tryz.underlying31 D y z A rfl q _ _ rfl ((Qb a).alloc _) (some (Xa wr.heap.size 0)) 1 1 [.string g,.string o] rfl (by simp) rfl (Q3 _ _ _) (by simp [Value.oneCell']) (by omega) (by omega) (by simp;omega) ?_;intro F w1 h f _));have s:=(r.alloc B (.cells #[.string g,.string o] 72)).grown f.out.by (by simp;omega) (λj t=>(World.ownsRow.lt (Qb a) j t).1);have u:=Qa (Jg.of_app (x:=(g,o)) h.out);clear h f a;go_wp2;go_roundw;·exact ⟨k+1,_,_,_,by omega,by go_num,rfl,rfl,p,u,s⟩
    simp [intOf];omega
   ·have p:Hid (Zy l nm vl (k+1)=(L++[(g,o)],true)):=by simpa [Hid] using m
    clear m;go_wp2_with ((at_builtin;refine Zp _ rfl (.tmp 40) (.tmp 45) 31 rfl w.heap.size 72 C _ 2 32 Tryz.underlying31 D y z A rfl q _ _ rfl ((Qb a).alloc _) (some (Xa wr.heap.size 0)) 1 1 [.string g,.string o] rfl (by simp) rfl (Q3 _ _ _) (by simp [Value.oneCell']) (by omega) (by omega) (by simp;omega) ?_;intro F w1 h f _));have s:=(r.alloc B (.cells #[.string g,.string o] 72)).grown f.out.by (by simp;omega) (λj t=>(World.ownsRow.lt (Qb a) j t).1);have u:=Qa (Jg.of_app (x:=(g,o)) h.out);clear h f a;go_wp2;go_roundw;·exact ⟨k+1,_,_,_,by omega,by go_num,rfl,rfl,p,u,s⟩
    simp [intOf];omega
   ·have p:Hid (Zy l nm vl (k+1)=(L,false)):=by simpa [Hid] using m
    clear m;go_wp2;go_roundw;·exact ⟨k+1,_,_,_,by omega,by go_num,rfl,rfl,p,a,r⟩
    simp [intOf];omega
   have p:Hid (Zy l nm vl (k+1)=(L,true)):=by simpa [Hid] using m
   clear m;go_wp2;go_roundw;·exact ⟨k+1,_,_,_,by omega,by go_num,rfl,rfl,p,a,r⟩
   simp [intOf];omega
  have S:k=l.length:=by rw [<- V.out];omega
  rw [S] at v;clear S;cases d
  ·have N:Hid (QQ l nm vl=L++[(nm,vl)]):=by refine Qa ?_;unfold QQ;rw [v.out];rfl
   clear v;have B:=r.size;go_wp2_with ((at_builtin;refine Zp _ rfl (.tmp 49) (.tmp 53) 31 rfl w.heap.size 72 C _ 2 32 Tryz.underlying31 D y z A rfl q _ _ rfl ((Qb a).alloc _) (some (Xa wr.heap.size 0)) 1 1 [.string nm,.string vl] rfl (by simp) rfl (Q3 _ _ _) (by simp [Value.oneCell']) (by omega) (by omega) (by simp;omega) ?_;intro F w1 h f _));have s:=(r.alloc B (.cells #[.string nm,.string vl] 72)).grown f.out.by (by simp;omega) (λj t=>(World.ownsRow.lt (Qb a) j t).1);have u:=Qa (Jg.of_app (x:=(nm,vl)) h.out);clear h f a;go_wp2;go_ret;exact ⟨_,rfl,by rw [N.out];exact u.out,s⟩
  have N:Hid (QQ l nm vl=L):=by refine Qa ?_;unfold QQ;rw [v.out];rfl
  clear v;go_wp2;go_ret;exact ⟨_,rfl,by rw [N.out];exact a.out,r⟩
theorem QtP (d:∃ m,m ∈ R/\m.id=id):∃ k,∃ b:k<R.length,Qk R id=(k:Int)/\R[k].id=id:=by
 unfold Qk;cases a:R.findIdx? (λn=>n.id==id) with
 | none =>rw [findIdx?_eq_none_iff] at a;obtain ⟨m,c,e⟩:=d;have:=a m c;simp [e] at this
 | some k =>rw [findIdx?_eq_some_iff_getElem] at a;obtain ⟨b,e,_⟩:=a;exact ⟨k,b,rfl,by simpa using e⟩
def Qb9 (R:List RN) (id:Int):Int:=QaM R (Qk R id).toNat
def Zs (R:List RN):Nat->Int->Int->Bool
 | 0,_,_=>false
 | f+1,id,other=>if id=0 then false else if id=other then true else Zs R f (Qb9 R id) other
theorem Qkk (R:List RN) (f:Nat) (a:Int):Zs R f 0 a=false:=by cases f<;>simp [Zs]
structure Up (R:List RN) (rk:Int->Nat):Prop where
 par:∀ n,n ∈ R->n.par=0 \/ ∃ m,m ∈ R/\m.id=n.par
 rank:∀ n,n ∈ R->n.par≠0->rk n.par<rk n.id
theorem Qg1 S p R last v rk (t:Up R rk) (id other:Int) (q:∃ m,m ∈ R/\m.id=id) w (D:Qq S w p R last v) : Xl 54 #[Xp p,Xi id,Xi other] w λe w'=>e=.returned (.bool (Zs R (rk id+1) id other))/\Xb w w':=by
 have u:=Qa D;have y:=Qa t;have H:Hid (id=0 \/ ∃ m,m ∈ R/\m.id=id):=Qa (.inr q);clear D t q;go_enter Tryz.func54,Tryz.ntmps54;go_wp2;go_loopw [1] (λi wr=>∃ (x:Int) (m:Nat),i=Xi x/\Hid (x=0 \/ rk x<m)/\Hid (x=0 \/ ∃ m,m ∈ R/\m.id=x)/\Hid (Zs R m x other=Zs R (rk id+1) id other)/\Xb w wr) (λi _=>if intOf i=0 then 0 else rk (intOf i)+1);·exact ⟨id,rk id+1,rfl,Qa (.inr (Xd2 _)),H,rfl,X4⟩
 case round =>
  obtain ⟨x,m,rfl,z,I,a,d⟩:=hrel;by_cases b:x=0
  ·subst b;have c:Hid (Zs R (rk id+1) id other=false):=by rw [<- a.out];exact Qkk R m other
   clear a;go_wp2;go_ret;exact ⟨Zm c.out.symm,d⟩
  have z:=z.out.resolve_left b;obtain ⟨m,rfl⟩:∃ J,m=J+1:=⟨m-1,by omega⟩;by_cases A:x=other
  ·subst A;have c:Hid (Zs R (rk id+1) id x=true):=by rw [<- a.out];simp [Hid,Zs,b]
   clear a;go_wp2;go_ret;exact ⟨Zm c.out.symm,d⟩
  obtain ⟨k,f,j,r⟩:=QtP (R:=R) (id:=x) (by rcases I.out with e|e;exact absurd e b;exact e);have h:=Qa (u.out.below d);obtain ⟨g,E,rfl,P,T,_,_,n⟩:=h.out.at (by omega);have U:=h.out.c0;have V:Xc wr g (k*6+1) (Xi R[k].par):=n k 1 f (by omega);clear n;have B:Qb9 R x=R[k].par:=by unfold Qb9;rw [j];exact Qbs f
  have c:Hid (Zs R m R[k].par other=Zs R (rk id+1) id other):=by rw [<- a.out,<- B];simp [Hid,Zs,b,A]
  have K:=Qa (y.out.par R[k] (Xa0 f));have s:R[k].par=0 \/ rk R[k].par<rk x:=by
   by_cases e:R[k].par=0
   ·exact .inl e
   right;have:=y.out.rank R[k] (Xa0 f) e;rwa [r] at this
  have o:rk R[k].par<m \/ R[k].par=0:=by omega
  have C:∀ w',Qq S w' p R last (Xe g R.length E)->Xl 49 #[Xp p,Xi x] w' λe F=>e=.returned (Xi k)/\F=w':=by intro w' L;rw [<- j];exact QbP S p R last _ x w' L
  have M:=Qa C;clear C;have O:=u.out.few;have W:(0:Int)<=(k:Int):=by omega
  have X:(k:Int)<(R.length:Int):=by omega
  clear j a r B;generalize R[k].par=l at *;have N:=Qa s;have G:=Qa o;clear s o;go_wp2;go_big_quiet ((go_at_call 49;exact Calls.quiet_of_same (Qb M _ ((Qb h).below (Qv X4 _)))));go_wp2;go_roundw
  ·exact ⟨l,m,rfl,Qa G.out.symm,K,c,Qv d _⟩
  case measure =>
   show (if l=0 then 0 else rk l+1)<(if x=0 then 0 else rk x+1);rw [if_neg b];rcases N.out with e|e
   ·rw [if_pos e];omega
   split<;>omega
def JH (S:Nat->Prop) (w w':World):Nat->Prop:=λb=>S b \/ (w.heap.size<=b/\b<w'.heap.size)
def pv (p:Nat) (v:Value) (b:Nat):Prop:=b=p \/ v.ownBlock=some b
def Qay (S:Nat->Prop) (w w':World) (p:Nat) (R:List RN) (last:Int) (v a:Value):Prop:=Qq (JH S w w') w' p R last a/\∀ b,a.ownBlock=some b->v.ownBlock=some b \/ w.heap.size<=b
theorem QfF:(Tryz.prog.info? 91).map (λi=>(i.zero,i.size,i.bytes))=some (some (.agg #[Xi 0,Xi 0,Xo,Xi 0,Xv,Xo]),6,80):=by kernel_rfl
theorem RN.cells_one (n:RN):∀ u ∈ n.cells,u.oneCell'=true:=by intro u a;simp [RN.cells] at a;rcases a with rfl|rfl|rfl|rfl|rfl|rfl<;>rfl
theorem Qht (R:List RN) (n:RN):ZS (R++[n])=ZS R++n.cells:=by rw [QrP,QwJ]
theorem Qq.relaid {q:Value} (f:Qq S w p R last v) (a:Xb w w1) (i:w1.ownsRow w.heap.size 91 6 q R'.length (ZS R')) (A:R'.length<=800) (r:∀ n,n ∈ R'->n.Ok S w/\∀ d,n.ao=some d->d.block≠p) : Qay S w (w1.setCell (Xa p 0) q) p R' last v q/\Qi (λb=>b=p) w (w1.setCell (Xa p 0) q):=by
 have h:=f.lt;have L:p<w1.heap.size:=Xb4 h a.size;have B:=(Xh a p 0 h).trans f.c0;have s:=(Xh a p 1 h).trans f.c1;have t:=(Xh a p 2 h).trans f.c2;have u:=(Xj a p 0 h).trans f.f0;have x:=(Xj a p 2 h).trans f.f2;have y:q.ownBlock=none \/ q.ownBlock≠some p:=by refine .inr λe=>?_;have:=(i.lt p e).1;omega
 refine ⟨⟨⟨.inl f.sp,?_,?_,?_,?_,?_,QbG (Qbl i y) X3,?_,A,?_,?_⟩,λb e=>.inr (i.lt b e).1⟩,?_⟩
 ·simp [go_sem,B]
 ·simp [go_sem,s]
 ·simp [go_sem,t]
 ·simp [go_sem,u]
 ·simp [go_sem,x]
 ·intro g C;have:=i.lt g C;exact ⟨.inr ⟨this.1,by rw [QJ];exact this.2⟩,by omega⟩
 ·intro n l;obtain ⟨c,m⟩:=r n l;refine ⟨c.an,c.few,c.nil,c.tag,c.text,?_,λd e=>⟨.inl (c.own d e).1,by rw [QJ];exact Xb4 (c.own d e).2 a.size⟩⟩;intro j D;obtain ⟨b,K,e,z,E,F,G,H⟩:=c.at'.below a j D;have o:b≠p:=m _ e;refine ⟨b,K,e,by rw [QJ];exact z,?_,?_,G,H⟩
  ·rw [World.cell?_of_block (Below.heap_setCell w1 (Xa p 0) q b o)];exact E
  rw [World.cell?_of_block (Below.heap_setCell w1 (Xa p 0) q b o)];exact F
 ·intro n l d e;obtain ⟨c,m⟩:=r n l;refine ⟨m d e,λI=>?_⟩;have s:=(i.lt d.block I.symm).1;have t:=(c.own d e).2;omega
 exact ⟨a.os,a.tape,a.output,by rw [QJ];exact a.size,λk J l=>(Below.heap_setCell w1 (Xa p 0) q k l).trans (a.block k J)⟩
def Zh (R:List RN) (n:RN) (fr:Nat) (bf:Int):Nat->List RN
 | 0=>[]
 | k+1=>Zh R n fr bf k++(if bf≠0/\Qg R k=bf then [n] else [])++(if k=fr then [] else (R.drop k).take 1)
def QM (R:List RN) (n:RN) (fr:Nat) (bf:Int):List RN:=Zh R n fr bf R.length++(if bf=0 then [n] else [])
theorem Qr1 (R:List RN) (n:RN) (fr:Nat) (bf:Int):∀ k,(Zh R n fr bf k).length<=2*k:=by
 intro k;induction k with
 | zero=>exact X0
 | succ k ih =>
  rw [Zh,length_append,length_append];have a:(if bf≠0/\Qg R k=bf then [n] else []).length<=1:=by split<;>simp
  have b:(if k=fr then [] else (R.drop k).take 1).length<=1:=by split<;>simp;omega
  omega
theorem Qca (a:k<R.length):(R.drop k).take 1=[R[k]]:=by rw [drop_eq_getElem_cons a];rfl
def QaP (w:World) (B:Nat) (v:Value) (R:List RN):Prop:=w.ownsRow B 91 6 v R.length (ZS R)
theorem QaP.of_app {n:RN} (b:w.ownsRow B 91 6 v (R.length+1) (ZS R++xs)) (a:n.cells=xs):QaP w B v (R++[n]):=by subst a;unfold QaP;rw [Qht,length_append];exact b
structure Qh where
 kind:Int
 id:Int
 par:Int
 bef:Int
 key:Int
 tag:ByteArray
 name:ByteArray
 text:ByteArray
def Qh.val (x:Qh):Value:=.agg #[Xi x.kind,Xi x.id,Xi x.par,Xi x.bef,Xi x.key,.string x.tag,.string x.name,.string x.text]
theorem QlQ S p (R:List RN) last v (aW id pa bf aX:Int) (aY aR aZ:ByteArray) (fr:Nat) (V:fr<R.length) (b0:Qk R id=(fr:Int)) w (u:Qq S w p R last v) (aP:(QM R { R[fr] with par:=pa } fr bf).length<=800) (aQ:∀ n,n ∈ QM R { R[fr] with par:=pa } fr bf->n ∈ R \/ n={ R[fr] with par:=pa }) : Xl 55 #[Xp p,.agg #[Xi aW,Xi id,Xi pa,Xi bf,Xi aX,.string aY,.string aR,.string aZ]] w λe w'=>e=.returned (.tuple #[])/\∃ bm,Qay S w w' p (QM R { R[fr] with par:=pa } fr bf) last v bm/\Qi (λb=>b=p) w w':=by
 obtain ⟨ar,au,ai,aj,ak⟩:=info_parts QfF;obtain ⟨g,aS,rfl,bI,bL,_,_,T⟩:=u.at (by omega);have bH:=u.few;have bM:=u.lt;have b1:=u.c0;have b2:=u.f0;have bn:Xc w g (fr*6) (Xi R[fr].id):=T fr 0 V (by omega);have bo:Xc w g (fr*6+1) (Xi R[fr].par):=T fr 1 V (by omega);have bp:Xc w g (fr*6+2) (.string R[fr].tag):=T fr 2 V (by omega);have bq:Xc w g (fr*6+3) (Xi R[fr].key):=T fr 3 V (by omega);have br:Xc w g (fr*6+4) (.slice R[fr].ao R[fr].an R[fr].ac):=T fr 4 V (by omega);have bs:Xc w g (fr*6+5) (.string R[fr].text):=T fr 5 V (by omega);have b3:=Qa T;have aK:=Qa u;have b4:∀ w',Qq S w' p R last (Xe g R.length aS)->Xl 49 #[Xp p,Xi id] w' λe bj=>e=.returned (Xi fr)/\bj=w':=by intro w' bt;rw [<- b0];exact QbP S p R last _ id w' bt
 have b5:=Qa b4;have aT:Hid (∀ n,n ∈ QM R { R[fr] with par:=pa } fr bf->n.Ok S w/\∀ av,n.ao=some av->av.block≠p):=by
  refine Qa λn aI=>?_;rcases aQ n aI with aI|rfl
  ·exact ⟨u.node n aI,λav e=>(u.apart n aI av e).1⟩
  have ag:=u.node R[fr] (Xa0 V);exact ⟨⟨ag.an,ag.few,ag.nil,ag.tag,ag.text,ag.at',ag.own⟩,λav e=>(u.apart R[fr] (Xa0 V) av e).1⟩
 have b6:=Qa aP;clear b4 T u b0 aQ aP;have aL:Hid (RN.cells { R[fr] with par:=pa }=[Xi R[fr].id,Xi pa,.string R[fr].tag,Xi R[fr].key,.slice R[fr].ao R[fr].an R[fr].ac,.string R[fr].text]):=rfl;generalize ({ R[fr] with par:=pa }:RN)=f at *;generalize R[fr]=a at *;go_enter Tryz.func55,Tryz.ntmps55;go_wp2_with (first|(go_at_call 49;refine (Qb b5 _ ((Qb aK).below Xd)).mono ?_;rintro e w1 ⟨rfl,rfl⟩));generalize N:((w.alloc (.cells #[Xi aW,Xi id,Xi pa,Xi bf,Xi aX,.string aY,.string aR,.string aZ] 29)).alloc (.cells #[Xi a.id,Xi pa,.string a.tag,Xi a.key,.slice a.ao a.an a.ac,.string a.text] 91))=w2;have ax:Xb w w2:=by rw [<- N];exact Xn
 have b7:w2.heap.size=w.heap.size+2:=by rw [<- N];simp
 have b8:w2.cell? (Xa w.heap.size 3)=some (Xi bf):=by rw [<- N];simp [go_sem]
 have b9:w2.cell? (Xa (w.heap.size+1) 0)=some (Xi a.id):=by rw [<- N];simp [go_sem]
 have ba:w2.cell? (Xa (w.heap.size+1) 1)=some (Xi pa):=by rw [<- N];simp [go_sem]
 have bb:w2.cell? (Xa (w.heap.size+1) 2)=some (.string a.tag):=by rw [<- N];simp [go_sem]
 have bc:w2.cell? (Xa (w.heap.size+1) 3)=some (Xi a.key):=by rw [<- N];simp [go_sem]
 have bd:w2.cell? (Xa (w.heap.size+1) 4)=some (.slice a.ao a.an a.ac):=by rw [<- N];simp [go_sem]
 have bg:w2.cell? (Xa (w.heap.size+1) 5)=some (.string a.text):=by rw [<- N];simp [go_sem]
 have al:=Qa ax;have S2:=Qa b7;have ah:Hid (∀ wr,Xb w2 wr->wr.cell? (Xa p 0)=some (Xe g R.length aS)/\wr.frozen? (Xa p 0)=false/\wr.cell? (Xa w.heap.size 3)=some (Xi bf)/\wr.cell? (Xa (w.heap.size+1) 0)=some (Xi a.id)/\wr.cell? (Xa (w.heap.size+1) 1)=some (Xi pa)/\wr.cell? (Xa (w.heap.size+1) 2)=some (.string a.tag)/\wr.cell? (Xa (w.heap.size+1) 3)=some (Xi a.key)/\wr.cell? (Xa (w.heap.size+1) 4)=some (.slice a.ao a.an a.ac)/\wr.cell? (Xa (w.heap.size+1) 5)=some (.string a.text)/\∀ k r,(aM:k<R.length)->r<6->wr.cell? (Xa g (k*6+r))=(R[k]).cells[r]?):=by refine Qa λwr P=>⟨(P.cell (by simp;omega)).trans ((ax.cell (by simp;omega)).trans b1),(P.frozen (by simp;omega)).trans ((ax.frozen (by simp;omega)).trans b2),(P.cell (by simp;omega)).trans b8,(P.cell (by simp;omega)).trans b9,(P.cell (by simp;omega)).trans ba,(P.cell (by simp;omega)).trans bb,(P.cell (by simp;omega)).trans bc,(P.cell (by simp;omega)).trans bd,(P.cell (by simp;omega)).trans bg,λk r aM bu=>?_⟩;exact (P.cell (by simp;omega)).trans ((ax.cell (by simp;omega)).trans (b3.out k r aM bu))
 have bN:p<w2.heap.size:=by omega
 have bO:g<w2.heap.size:=by omega
 have bP:w.heap.size<w2.heap.size:=by omega
 have bQ:w.heap.size+1<w2.heap.size:=by omega
 clear N ax b7 b8 b9 ba bb bc bd bg b1 b2 bn bo bp bq br bs b5 b3;go_loopw [6,7] (λbG i wr=>∃ (k:Nat) (q:Value),k<=R.length/\i=Xi k/\q=bG/\Hid (QaP wr w2.heap.size q (Zh R f fr bf k))/\Xb w2 wr) (λ_ i _=>R.length-(intOf i).toNat);·exact ⟨0,_,X3,rfl,rfl,Qa (show QaP _ _ _ [] from Xc0 _ _ _ _),X4⟩
 case round =>
  obtain ⟨k,q,aM,rfl,rfl,B,M⟩:=hrel;have bJ:=Qr1 R f fr bf k;have C:=M.size;obtain ⟨Y,a0,a1,a2,a3,a4,a5,a6,a7,h⟩:=ah.out _ M;by_cases c:k<R.length
  ·have a8:Xc wr g (k*6) (Xi R[k].id):=h k 0 c (by omega);have a9:Xc wr g (k*6+1) (Xi R[k].par):=h k 1 c (by omega);have aa:Xc wr g (k*6+2) (.string R[k].tag):=h k 2 c (by omega);have ab:Xc wr g (k*6+3) (Xi R[k].key):=h k 3 c (by omega);have ad:Xc wr g (k*6+4) (.slice R[k].ao R[k].an R[k].ac):=h k 4 c (by omega);have ae:Xc wr g (k*6+5) (.string R[k].text):=h k 5 c (by omega);have A:Hid (Zh R f fr bf (k+1)=Zh R f fr bf k++(if bf≠0/\R[k].id=bf then [f] else [])++(if k=fr then [] else [R[k]])):=by refine Qa ?_;rw [Zh,QV c,Qca c]
   clear h;generalize aU:R[k]=x at *;have t:=Qa aU;clear aU;have bR:(0:Int)<=(k:Int):=by omega
   have bS:(k:Int)<(R.length:Int):=by omega
   have aw:g≠wr.heap.size:=by omega
   by_cases D:bf=0
   ·have aN:(bf !=0)=false:=by simp [D]
    have U:Hid (¬ (bf≠0/\x.id=bf)):=Qa (λu=>u.1 D);clear D;go_wp2;go_big_quiet (fail);rename_i nq;generalize E:wr.drewN nq=d;have y:Xb w2 d:=by rw [<- E];exact Qv M nq
    have s:Hid (QaP d w2.heap.size q (Zh R f fr bf k)):=by rw [<- E];exact Qa (QX B.out (Qv X4 nq))
    clear E B M Y a0 a1 a2 a3 a4 a5 a6 a7 a8 a9 aa ab ad ae C aw;have C:=y.size;have aw:g≠d.heap.size:=by omega
    have aO:w.heap.size+1≠d.heap.size:=by omega
    obtain ⟨Y,a0,a1,a2,a3,a4,a5,a6,a7,h⟩:=ah.out _ y;have F:=h k 0 c (by omega);have G:=h k 1 c (by omega);have H:=h k 2 c (by omega);have I:=h k 3 c (by omega);have l:=h k 4 c (by omega);have J:=h k 5 c (by omega);rw [t.out] at F G H I l J;have a8:Xc d g (k*6) (Xi x.id):=F;have a9:Xc d g (k*6+1) (Xi x.par):=G;have aa:Xc d g (k*6+2) (.string x.tag):=H;have ab:Xc d g (k*6+3) (Xi x.key):=I;have ad:Xc d g (k*6+4) (.slice x.ao x.an x.ac):=l;have ae:Xc d g (k*6+5) (.string x.text):=J;clear h F G H I l J;by_cases W:k=fr
    ·have o:Hid (Zh R f fr bf (k+1)=Zh R f fr bf k):=by rw [A.out,if_neg U.out];simp [Hid,W]
     rw [<- o.out] at s;clear A o;have aA:((k:Int) !=(fr:Int))=false:=by simp;omega
     go_wp2;go_roundw;·exact ⟨k+1,_,by omega,by go_num,rfl,s,y⟩
     simp [intOf];omega
    have o:Hid (Zh R f fr bf (k+1)=Zh R f fr bf k++[x]):=by rw [A.out,if_neg U.out];simp [Hid,W]
    clear A;have aA:((k:Int) !=(fr:Int))=true:=by simp;omega
    go_wp2_with ((at_builtin;refine Zp _ rfl (.tmp 54) (.tmp 62) 87 rfl w2.heap.size 91 ar _ 6 80 Tryz.underlying87 au ai aj ak rfl q _ _ rfl ((Qb s).alloc _) (some (Xa d.heap.size 0)) 1 1 [Xi x.id,Xi x.par,.string x.tag,Xi x.key,.slice x.ao x.an x.ac,.string x.text] rfl (by simp) rfl (Q3 _ _ _) (by simp [Value.oneCell']) (by omega) (by omega) (by simp;omega) ?_;intro q3 w3 z K _));have X:=(y.alloc C (.cells #[Xi x.id,Xi x.par,.string x.tag,Xi x.key,.slice x.ao x.an x.ac,.string x.text] 91)).grown K.out.by (by simp;omega) (λj L=>(World.ownsRow.lt (Qb s) j L).1);have O:=Qa (QaP.of_app (n:=x) z.out rfl);rw [<- o.out] at O;clear z K s;go_wp2;go_roundw;·exact ⟨k+1,_,by omega,by go_num,rfl,O,X⟩
    simp [intOf];omega
   have aN:(bf !=0)=true:=by simp [D]
   by_cases ap:x.id=bf
   ·have bv:(x.id==bf)=true:=by simp [ap]
    have U:Hid (bf≠0/\x.id=bf):=Qa ⟨D,ap⟩;clear ap;go_wp2;go_big_quiet (fail);rename_i nq;generalize E:wr.drewN nq=d;have y:Xb w2 d:=by rw [<- E];exact Qv M nq
    have s:Hid (QaP d w2.heap.size q (Zh R f fr bf k)):=by rw [<- E];exact Qa (QX B.out (Qv X4 nq))
    clear E B M Y a0 a1 a2 a3 a4 a5 a6 a7 a8 a9 aa ab ad ae C aw;have C:=y.size;have aw:g≠d.heap.size:=by omega
    have aO:w.heap.size+1≠d.heap.size:=by omega
    obtain ⟨Y,a0,a1,a2,a3,a4,a5,a6,a7,h⟩:=ah.out _ y;have F:=h k 0 c (by omega);have G:=h k 1 c (by omega);have H:=h k 2 c (by omega);have I:=h k 3 c (by omega);have l:=h k 4 c (by omega);have J:=h k 5 c (by omega);rw [t.out] at F G H I l J;have a8:Xc d g (k*6) (Xi x.id):=F;have a9:Xc d g (k*6+1) (Xi x.par):=G;have aa:Xc d g (k*6+2) (.string x.tag):=H;have ab:Xc d g (k*6+3) (Xi x.key):=I;have ad:Xc d g (k*6+4) (.slice x.ao x.an x.ac):=l;have ae:Xc d g (k*6+5) (.string x.text):=J;clear h F G H I l J;by_cases W:k=fr
    ·have o:Hid (Zh R f fr bf (k+1)=Zh R f fr bf k++[f]):=by rw [A.out,if_pos U.out];simp [Hid,W]
     have aA:((k:Int) !=(fr:Int))=false:=by simp;omega
     clear A;go_wp2_with ((at_builtin;refine Zp _ rfl (.tmp 47) (.tmp 49) 87 rfl w2.heap.size 91 ar _ 6 80 Tryz.underlying87 au ai aj ak rfl q _ _ rfl ((Qb s).alloc _) (some (Xa d.heap.size 0)) 1 1 [Xi a.id,Xi pa,.string a.tag,Xi a.key,.slice a.ao a.an a.ac,.string a.text] rfl (by simp) rfl (Q3 _ _ _) (by simp [Value.oneCell']) (by omega) (by omega) (by simp;omega) ?_;intro bh w4 ay az _;have af:=Qa ((y.alloc C (.cells #[Xi a.id,Xi pa,.string a.tag,Xi a.key,.slice a.ao a.an a.ac,.string a.text] 91)).grown (Qb az).by (by simp;omega) (λj L=>(World.ownsRow.lt (Qb s) j L).1));have aq:=Qa (QaP.of_app (n:=f) (Qb ay) (Qb aL));have aV:=(Qb af).size;have bk:g≠w4.heap.size:=(by omega);obtain ⟨bw,_,_,_,_,_,_,_,_,l⟩:=Qb ah _ (Qb af);have aB:=(l k 0 c (by omega)).trans (congrArg (λ(m:RN)=>m.cells[0]?) (Qb t));have aC:=(l k 1 c (by omega)).trans (congrArg (λ(m:RN)=>m.cells[1]?) (Qb t));have aD:=(l k 2 c (by omega)).trans (congrArg (λ(m:RN)=>m.cells[2]?) (Qb t));have aE:=(l k 3 c (by omega)).trans (congrArg (λ(m:RN)=>m.cells[3]?) (Qb t));have aF:=(l k 4 c (by omega)).trans (congrArg (λ(m:RN)=>m.cells[4]?) (Qb t));have aG:=(l k 5 c (by omega)).trans (congrArg (λ(m:RN)=>m.cells[5]?) (Qb t));have bx:w4.cell? (Xa g (k*6))=some (Xi x.id):=aB;have bz:w4.cell? (Xa g (k*6+1))=some (Xi x.par):=aC;have bA:w4.cell? (Xa g (k*6+2))=some (.string x.tag):=aD;have bB:w4.cell? (Xa g (k*6+3))=some (Xi x.key):=aE;have bC:w4.cell? (Xa g (k*6+4))=some (.slice x.ao x.an x.ac):=aF;have bD:w4.cell? (Xa g (k*6+5))=some (.string x.text):=aG;clear l aB aC aD aE aF aG ay az s Y a0 a1 a2 a3 a4 a5 a6 a7 a8 a9 aa ab ad ae));rw [<- o.out] at aq;go_wp2;go_roundw;·exact ⟨k+1,_,by omega,by go_num,rfl,aq,af.out⟩
     simp [intOf];omega
    have o:Hid (Zh R f fr bf (k+1)=Zh R f fr bf k++[f]++[x]):=by rw [A.out,if_pos U.out];simp [Hid,W]
    have aA:((k:Int) !=(fr:Int))=true:=by simp;omega
    have bK:(Zh R f fr bf k++[f]).length<=2*k+1:=by simp;omega
    clear A;go_wp2_with (first|(at_builtin;refine Zp _ rfl (.tmp 47) (.tmp 49) 87 rfl w2.heap.size 91 ar _ 6 80 Tryz.underlying87 au ai aj ak rfl q _ _ rfl ((Qb s).alloc _) (some (Xa d.heap.size 0)) 1 1 [Xi a.id,Xi pa,.string a.tag,Xi a.key,.slice a.ao a.an a.ac,.string a.text] rfl (by simp) rfl (Q3 _ _ _) (by simp [Value.oneCell']) (by omega) (by omega) (by simp;omega) ?_;intro bh w4 ay az _;have af:=Qa ((y.alloc C (.cells #[Xi a.id,Xi pa,.string a.tag,Xi a.key,.slice a.ao a.an a.ac,.string a.text] 91)).grown (Qb az).by (by simp;omega) (λj L=>(World.ownsRow.lt (Qb s) j L).1));have aq:=Qa (QaP.of_app (n:=f) (Qb ay) (Qb aL));have aV:=(Qb af).size;have bk:g≠w4.heap.size:=(by omega);obtain ⟨bw,_,_,_,_,_,_,_,_,l⟩:=Qb ah _ (Qb af);have aB:=(l k 0 c (by omega)).trans (congrArg (λ(m:RN)=>m.cells[0]?) (Qb t));have aC:=(l k 1 c (by omega)).trans (congrArg (λ(m:RN)=>m.cells[1]?) (Qb t));have aD:=(l k 2 c (by omega)).trans (congrArg (λ(m:RN)=>m.cells[2]?) (Qb t));have aE:=(l k 3 c (by omega)).trans (congrArg (λ(m:RN)=>m.cells[3]?) (Qb t));have aF:=(l k 4 c (by omega)).trans (congrArg (λ(m:RN)=>m.cells[4]?) (Qb t));have aG:=(l k 5 c (by omega)).trans (congrArg (λ(m:RN)=>m.cells[5]?) (Qb t));have bx:w4.cell? (Xa g (k*6))=some (Xi x.id):=aB;have bz:w4.cell? (Xa g (k*6+1))=some (Xi x.par):=aC;have bA:w4.cell? (Xa g (k*6+2))=some (.string x.tag):=aD;have bB:w4.cell? (Xa g (k*6+3))=some (Xi x.key):=aE;have bC:w4.cell? (Xa g (k*6+4))=some (.slice x.ao x.an x.ac):=aF;have bD:w4.cell? (Xa g (k*6+5))=some (.string x.text):=aG;clear l aB aC aD aE aF aG ay az s Y a0 a1 a2 a3 a4 a5 a6 a7 a8 a9 aa ab ad ae)|(at_builtin;refine Zp _ rfl (.tmp 54) (.tmp 62) 87 rfl w2.heap.size 91 ar _ 6 80 Tryz.underlying87 au ai aj ak rfl bh _ _ rfl ((Qb aq).alloc _) (some (Xa w4.heap.size 0)) 1 1 [Xi x.id,Xi x.par,.string x.tag,Xi x.key,.slice x.ao x.an x.ac,.string x.text] rfl (by simp) rfl (Q3 _ _ _) (by simp [Value.oneCell']) (by omega) (by omega) (by simp;omega) ?_;intro q3 w3 z K _));have X:=((Qb af).alloc aV (.cells #[Xi x.id,Xi x.par,.string x.tag,Xi x.key,.slice x.ao x.an x.ac,.string x.text] 91)).grown K.out.by (by simp;omega) (λj L=>(World.ownsRow.lt (Qb aq) j L).1);have O:=Qa (QaP.of_app (n:=x) z.out rfl);rw [<- o.out] at O;clear z K aq;go_wp2;go_roundw;·exact ⟨k+1,_,by omega,by go_num,rfl,O,X⟩
    simp [intOf];omega
   have bv:(x.id==bf)=false:=by simp [ap]
   have U:Hid (¬ (bf≠0/\x.id=bf)):=Qa (λu=>ap u.2);clear ap;go_wp2;go_big_quiet (fail);rename_i nq;generalize E:wr.drewN nq=d;have y:Xb w2 d:=by rw [<- E];exact Qv M nq
   have s:Hid (QaP d w2.heap.size q (Zh R f fr bf k)):=by rw [<- E];exact Qa (QX B.out (Qv X4 nq))
   clear E B M Y a0 a1 a2 a3 a4 a5 a6 a7 a8 a9 aa ab ad ae C aw;have C:=y.size;have aw:g≠d.heap.size:=by omega
   have aO:w.heap.size+1≠d.heap.size:=by omega
   obtain ⟨Y,a0,a1,a2,a3,a4,a5,a6,a7,h⟩:=ah.out _ y;have F:=h k 0 c (by omega);have G:=h k 1 c (by omega);have H:=h k 2 c (by omega);have I:=h k 3 c (by omega);have l:=h k 4 c (by omega);have J:=h k 5 c (by omega);rw [t.out] at F G H I l J;have a8:Xc d g (k*6) (Xi x.id):=F;have a9:Xc d g (k*6+1) (Xi x.par):=G;have aa:Xc d g (k*6+2) (.string x.tag):=H;have ab:Xc d g (k*6+3) (Xi x.key):=I;have ad:Xc d g (k*6+4) (.slice x.ao x.an x.ac):=l;have ae:Xc d g (k*6+5) (.string x.text):=J;clear h F G H I l J;by_cases W:k=fr
   ·have o:Hid (Zh R f fr bf (k+1)=Zh R f fr bf k):=by rw [A.out,if_neg U.out];simp [Hid,W]
    rw [<- o.out] at s;clear A o;have aA:((k:Int) !=(fr:Int))=false:=by simp;omega
    go_wp2;go_roundw;·exact ⟨k+1,_,by omega,by go_num,rfl,s,y⟩
    simp [intOf];omega
   have o:Hid (Zh R f fr bf (k+1)=Zh R f fr bf k++[x]):=by rw [A.out,if_neg U.out];simp [Hid,W]
   clear A;have aA:((k:Int) !=(fr:Int))=true:=by simp;omega
   go_wp2_with ((at_builtin;refine Zp _ rfl (.tmp 54) (.tmp 62) 87 rfl w2.heap.size 91 ar _ 6 80 Tryz.underlying87 au ai aj ak rfl q _ _ rfl ((Qb s).alloc _) (some (Xa d.heap.size 0)) 1 1 [Xi x.id,Xi x.par,.string x.tag,Xi x.key,.slice x.ao x.an x.ac,.string x.text] rfl (by simp) rfl (Q3 _ _ _) (by simp [Value.oneCell']) (by omega) (by omega) (by simp;omega) ?_;intro q3 w3 z K _));have X:=(y.alloc C (.cells #[Xi x.id,Xi x.par,.string x.tag,Xi x.key,.slice x.ao x.an x.ac,.string x.text] 91)).grown K.out.by (by simp;omega) (λj L=>(World.ownsRow.lt (Qb s) j L).1);have O:=Qa (QaP.of_app (n:=x) z.out rfl);rw [<- o.out] at O;clear z K s;go_wp2;go_roundw;·exact ⟨k+1,_,by omega,by go_num,rfl,O,X⟩
   simp [intOf];omega
  have bl:k=R.length:=by omega
  subst bl;by_cases D:bf=0
  ·have o:Hid (QM R f fr bf=Zh R f fr bf R.length++[f]):=by simp [Hid,QM,D]
   have aN:(bf==0)=true:=by simp [D]
   clear D;have aO:w.heap.size+1≠wr.heap.size:=by omega
   go_wp2_with ((at_builtin;refine Zp _ rfl (.tmp 67) (.tmp 69) 87 rfl w2.heap.size 91 ar _ 6 80 Tryz.underlying87 au ai aj ak rfl q _ _ rfl ((Qb B).alloc _) (some (Xa wr.heap.size 0)) 1 1 [Xi a.id,Xi pa,.string a.tag,Xi a.key,.slice a.ao a.an a.ac,.string a.text] rfl (by simp) rfl (Q3 _ _ _) (by simp [Value.oneCell']) (by omega) (by omega) (by simp;omega) ?_;intro q3 w3 z K _;obtain ⟨bE,bF,rfl⟩:=Qy (Qb z);have X:=Qa ((M.alloc C (.cells #[Xi a.id,Xi pa,.string a.tag,Xi a.key,.slice a.ao a.an a.ac,.string a.text] 91)).grown (Qb K).by (by simp;omega) (λj L=>(World.ownsRow.lt (Qb B) j L).1));have O:=Qa (QaP.of_app (n:=f) (Qb z) (Qb aL));obtain ⟨bT,bU,_⟩:=Qb ah _ (Qb X);clear z K B));go_wp2;go_end0;have aJ:=al.out.trans (X.out.mono al.out.size);have bi:=QbG O.out al.out.size;rw [<- o.out] at bi;have aH:=aK.out.relaid aJ bi b6.out aT.out;exact ⟨rfl,_,aH.1,aH.2⟩
  have o:Hid (QM R f fr bf=Zh R f fr bf R.length):=by simp [Hid,QM,D]
  have aN:(bf==0)=false:=by simp [D]
  obtain ⟨bE,bF,rfl⟩:=Qy B.out;go_wp2;go_end0;have aJ:=al.out.trans (M.mono al.out.size);have aH:=aK.out.relaid aJ (QbG B.out al.out.size) (by rw [<- o.out];exact b6.out) (by rw [<- o.out];exact aT.out);rw [o.out];exact ⟨rfl,_,aH.1,aH.2⟩
def QaL (a:List (Nat × Int)) (i:Nat):Bool:=a.any λx=>x.1==i
def Jj (R:List RN) (a:List (Nat × Int)):Nat->List RN
 | 0=>[]
 | k+1=>Jj R a k++(if QaL a k then [] else (R.drop k).take 1)
def Jl (R:List RN) (a:List (Nat × Int)):List RN:=Jj R a R.length
theorem QnR (R:List RN) (a:List (Nat × Int)):∀ k,(Jj R a k).length<=k:=by
 intro k;induction k with
 | zero=>exact X0
 | succ k ih =>
  rw [Jj,length_append];have b:(if QaL a k then [] else (R.drop k).take 1).length<=1:=by split<;>simp;omega
  omega
theorem QgJ {n:RN} (a:n ∈ Jj R W k):n ∈ R:=by
 induction k with
 | zero=>simp [Jj] at a
 | succ k ih =>
  rw [Jj] at a;rcases Xa4.1 a with a|a
  ·exact ih a
  split at a
  ·simp at a
  exact mem_of_mem_drop (mem_of_mem_take a)
def QbC (a:List (Nat × Int)) (i m:Nat):Bool:=QaL (a.take m) i
theorem QnT (a:List (Nat × Int)) (i:Nat):QbC a i 0=false:=by simp [QbC,QaL]
theorem Qth (a:List (Nat × Int)) (i:Nat):QbC a i a.length=QaL a i:=by simp [QbC]
theorem QsK (a:m<W.length):QbC W i (m+1)=(QbC W i m||(W[m].1==i)):=by unfold QbC QaL;rw [take_succ_eq_append_getElem a,any_append];simp
theorem QvY S p R last v (r f:Nat) (aJ:f<=1099511627776) (z:ZF R f r) (a8:(Qo R f r 0).length<=1099511627776) w (y:Qq S w p R last v) : Xl 56 #[Xp p,Xi r] w λe w'=>e=.returned (.tuple #[])/\∃ aq,Qay S w w' p (Jl R (Qo R f r 0)) last v aq/\Qi (λb=>b=p) w w':=by
 obtain ⟨ar,au,aa,ab,ad⟩:=info_parts QfF;have a9:=QiH (d:=0) z;have ae:0<R.length:=by cases f with| zero=>exact absurd z (by simp [ZF])| succ f=>exact Nat.lt_of_le_of_lt X3 z.1
 have a3:∀ w,Qq S w p R last v->Xl 48 #[Xp p,Xi r,Xi 0] w λe w'=>∃ s F G O,e=.returned (.tuple #[Xe s (Qo R f r 0).length F,.slice G (Qo R f r 0).length O]) /\ (Qo R f r 0).length<=F/\s<w'.heap.size/\(∀ k,(l:k<(Qo R f r 0).length)->w'.cell? (Xa s k)=some (Xi ((Qo R f r 0)[k].1:Nat)))/\Xb w w':=by intro w av;refine (Qhu S p R last v f r 0 w z (by omega) (by omega) a8 av).mono ?_;rintro e w' ⟨aK,F,G,O,rfl,a4⟩;obtain ⟨s,rfl,o,_,P,C⟩:=a4.o1.some (by rw [QcV];exact a9);refine ⟨s,F,G,O,rfl,o,P,λk l=>?_,a4.bel⟩;rw [C k (by rw [QcV];exact l)];unfold Qbd;rw [getElem?_map,getElem?_eq_getElem l];rfl
 have a5:=Qa a3;have T:=Qa y;have aw:Hid ((Jl R (Qo R f r 0)).length<=800):=Qa (Xb6 (QnR _ _ _) y.few);have af:Hid (∀ n,n ∈ Jl R (Qo R f r 0)->n.Ok S w/\∀ H,n.ao=some H->H.block≠p):=Qa λn a6=>⟨y.node n (QgJ a6),λH e=>(y.apart n (QgJ a6) H e).1⟩;have aL:=y.lt;have aD:=y.few;clear a3 y z;generalize Qo R f r 0=a at *;go_enter Tryz.func56,Tryz.ntmps56;go_wp2_with (first|(go_at_call 48;refine (Qb a5 _ (Qb T)).mono ?_;rintro e w2 ⟨s,aM,G,aN,rfl,aE,ag,U,M⟩));have D:=Qa (T.out.below M);have N:=Qa M;obtain ⟨g,ah,rfl,aF,P,_,_,C⟩:=D.out.at ae;have V:=D.out.lt;have ax:Hid (∀ wr,Xb w2 wr->wr.cell? (Xa p 0)=some (Xe g R.length ah)/\wr.frozen? (Xa p 0)=false/\(∀ k r,(l:k<R.length)->r<6->wr.cell? (Xa g (k*6+r))=(R[k]).cells[r]?)/\∀ k,(l:k<a.length)->wr.cell? (Xa s k)=some (Xi (a[k].1:Nat))) := Qa λwr I=>⟨(Xh I p _ V).trans D.out.c0,(Xj I p _ V).trans D.out.f0,λk r l ay=>(Xh I g _ P).trans (C k r l ay),λk l=>(Xh I s _ ag).trans (U k l)⟩;clear U a5 M C;go_loopw [6,7,8,9] (λaC i _ _ wr=>∃ (k:Nat) (q:Value),k<=R.length/\i=Xi k/\q=aC/\Hid (QaP wr w2.heap.size q (Jj R a k))/\Xb w2 wr) (λ_ i _ _ _=>R.length-(intOf i).toNat);·exact ⟨0,_,X3,rfl,rfl,Qa (show QaP _ _ _ [] from Xc0 _ _ _ _),X4⟩
 case round =>
  obtain ⟨k,q,l,rfl,rfl,t,A⟩:=hrel;have aG:=QnR R a k;have ai:=A.size;obtain ⟨aO,aP,o,W⟩:=ax.out _ A;by_cases u:k<R.length
  ·have aj:=Qa W;have aQ:Xc wr g (k*6) (Xi R[k].id):=o k 0 u (by omega);have aH:Xc wr g (k*6+1) (Xi R[k].par):=o k 1 u (by omega);have aI:Xc wr g (k*6+2) (.string R[k].tag):=o k 2 u (by omega);have aR:Xc wr g (k*6+3) (Xi R[k].key):=o k 3 u (by omega);have aS:Xc wr g (k*6+4) (.slice R[k].ao R[k].an R[k].ac):=o k 4 u (by omega);have aT:Xc wr g (k*6+5) (.string R[k].text):=o k 5 u (by omega);have J:Hid (Jj R a (k+1)=Jj R a k++(if QaL a k then [] else [R[k]])):=by refine Qa ?_;rw [Jj,Qca u]
   clear o W;generalize R[k]=x at *;have aU:g≠wr.heap.size:=by omega
   go_wp2;go_loopw [8,9] (λb i az=>∃ m:Nat,m<=a.length/\b=.bool (!QbC a k m)/\i=Xi m/\az=wr) (λ_ i _=>a.length-(intOf i).toNat);·exact ⟨0,X3,by rw [QnT];rfl,rfl,rfl⟩
   case round =>
    obtain ⟨m,aV,rfl,rfl,rfl⟩:=hrel;by_cases X:m<a.length
    ·have aW:=aj.out m X;have c:=Qa (QsK (i:=k) X);have aX:(0:Int)<=(m:Int):=by omega
     have aY:(m:Int)<(a.length:Int):=by omega
     generalize a[m].1=K at *;cases h:QbC a k m with
     | true =>
      rw [h] at c;have B:Hid (QbC a k (m+1)=true):=by simpa [Hid] using c
      clear c h;go_wp2;go_roundw;·exact ⟨m+1,by omega,by rw [B.out];rfl,by go_num,trivial⟩
      simp [intOf];omega
     | false =>
      rw [h] at c;by_cases E:K=k
      ·have B:Hid (QbC a k (m+1)=true):=by simpa [Hid,E] using c
       have aA:((K:Int) !=(k:Int))=false:=by simp;omega
       clear c h E;go_wp2;go_roundw;·exact ⟨m+1,by omega,by rw [B.out];rfl,by go_num,trivial⟩
       simp [intOf];omega
      have e:(K==k)=false:=by simp [E]
      have B:Hid (QbC a k (m+1)=false):=by rw [e] at c;exact c
      have aA:((K:Int) !=(k:Int))=true:=by simp;omega
      clear c h E e;go_wp2;go_roundw;·exact ⟨m+1,by omega,by rw [B.out];rfl,by go_num,trivial⟩
      simp [intOf];omega
    have Y:m=a.length:=by omega
    have c:Hid (QbC a k m=QaL a k):=by rw [Y];exact Qth a k
    clear Y;cases h:QaL a k with
    | true =>
     rw [h] at c;have L:Hid (Jj R a (k+1)=Jj R a k):=by rw [J.out,h];simp [Hid]
     rw [<- L.out] at t;rw [c.out] at *;clear J L h c;go_wp2;go_roundw;·exact ⟨k+1,_,by omega,by go_num,rfl,t,A⟩
     simp [intOf];omega
    | false =>
     have L:Hid (Jj R a (k+1)=Jj R a k++[x]):=by rw [J.out,h];simp [Hid]
     rw [h] at c;rw [c.out] at *;clear J h c;go_wp2_with ((at_builtin;refine Zp _ rfl (.tmp 41) (.tmp 49) 87 rfl w2.heap.size 91 ar _ 6 80 Tryz.underlying87 au aa ab ad rfl q _ _ rfl ((Qb t).alloc _) (some (Xa _ 0)) 1 1 [Xi x.id,Xi x.par,.string x.tag,Xi x.key,.slice x.ao x.an x.ac,.string x.text] rfl (by simp) rfl (Q3 _ _ _) (by simp [Value.oneCell']) (by omega) (by omega) (by simp;omega) ?_;intro q3 w3 a0 a1 _));have ak:=(A.alloc ai (.cells #[Xi x.id,Xi x.par,.string x.tag,Xi x.key,.slice x.ao x.an x.ac,.string x.text] 91)).grown a1.out.by (by simp;omega) (λj aB=>(World.ownsRow.lt (Qb t) j aB).1);have a2:=Qa (QaP.of_app (n:=x) a0.out rfl);rw [<- L.out] at a2;clear a0 a1 t;go_wp2;go_roundw;·exact ⟨k+1,_,by omega,by go_num,rfl,a2,ak⟩
     simp [intOf];omega
  have al:k=R.length:=by omega
  subst al;obtain ⟨aZ,b0,rfl⟩:=Qy t.out;go_wp2_with fail;go_end0;have ap:=N.out.trans (A.mono N.out.size);have a7:=T.out.relaid ap (QbG t.out N.out.size) aw.out af.out;exact ⟨rfl,_,a7.1,a7.2⟩
end Go.Proofs.YtobgcaemnpkbmaaGreat
