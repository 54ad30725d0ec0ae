import Derived.Test.YtobgcaemnpkbmaaGreatDoorC33
import Derived.Test.YtobgcaemnpkbmaaGreatDoorC32
import Derived.Test.YtobgcaemnpkbmaaGreatDoorC28
namespace Go.Proofs.YtobgcaemnpkbmaaGreatDoor
set_option maxRecDepth 100000
set_option maxHeartbeats 8000000
open Go.RowKit List
theorem QkT:Tryz.prog.globalNamed "internal/strconv.uint64pow10"=some 1:=by kernel_rfl
theorem Gl.heap {w w':World} (h:Gl w) (b:w'.heap[0]?=w.heap[0]?) (c:w'.heap[1]?=w.heap[1]?) (d:w.heap.size<=w'.heap.size):Gl w':=by refine ⟨?_,λi f=>(World.cell?_of_block b).trans (h.nm i f),Nat.lt_of_lt_of_le h.pos d⟩;have a:=h.tab;unfold Tab Lib.TabIs World.var? at a ⊢;rw [QkT] at a ⊢;simp only [Option.bind_some] at a ⊢;rw [c];exact a
theorem Gl.two {w:World} (h:Gl w):1<w.heap.size:=by have a:=h.tab;unfold Tab Lib.TabIs World.var? at a;rw [QkT] at a;simp only [Option.bind_some] at a;cases e:w.heap[1]? with| none=>rw [e] at a;cases a| some b=>exact (Array.getElem?_eq_some_iff.1 e).1
theorem Gl.below {w w':World} (h:Gl w) (hb:Below w.heap.size w w'):Gl w':=h.heap (hb.block 0 h.pos) (hb.block 1 h.two) hb.size
structure Qct (w:World) (b o:Nat) (C:Nat->Cm):Prop where
 set:QaF w b o C
 lt:b<w.heap.size
 nums:∀ k,k<21->QbN w (C k).no (C k).ns/\(C k).nn=(C k).ns.length
 nlt:∀ k a,k<21->(C k).no=some a->a.block<w.heap.size
 gl:Gl w
theorem Qct.below {w w':World} {b d:Nat} {C:Nat->Cm} (h:Qct w b d C) (hb:Below w.heap.size w w'):Qct w' b d C := ⟨λj v f=>(hb.cell (p:=⟨b,d+j,none⟩) h.lt).trans (h.set j v f),Nat.lt_of_lt_of_le h.lt hb.size,λk c=>⟨λj x i=>by obtain ⟨g,e,l⟩:=(h.nums k c).1 j x i;exact ⟨g,e,(hb.cell (p:=⟨g,j,none⟩) (h.nlt k ⟨g,0,none⟩ c e)).trans l⟩,(h.nums k c).2⟩,λk a c e=>Nat.lt_of_lt_of_le (h.nlt k a c e) hb.size,h.gl.below hb⟩
def QfY (w:World) (P:List Pn) (e:Ending) (w':World):Prop:=∃ q a,e=.returned q/\ZB w.heap.size w' q a/\a.map TN.pn=P/\Below w.heap.size w w'
def Qgz (w:World) (P:List Pn) (e:Ending) (w':World):Prop:=∃ pv Ns,e=.returned pv/\ZN w.heap.size w' pv Ns/\(QG Ns).map TN.pn=P/\Ns.length<=21/\Below w.heap.size w w'
def QgF (C:Nat->Pc) (f p:Nat) (d:Int) (m:Nat):List Pn:=(List.range m).flatMap λj=>if Q9 C p j then ZC C f j d else []
theorem Qnh (C:Nat->Pc) (f p:Nat) (d:Int) (m:Nat):QgF C f p d (m+1)=QgF C f p d m++if Q9 C p m then ZC C f m d else []:=by unfold QgF;rw [range_succ,flatMap_append];simp
theorem Qi7 (b o f p:Nat) (d:Int) (C:Nat->Cm) (w:World) (h:Qct w b o C) (I:∀ j,j<21->Q9 (Qh C) p j=true->∀ g,Below w.heap.size w g->Calls Tryz.prog 110 #[.pointer (some ⟨b,o,none⟩),.int .i64 j,.int .i64 d] g (QfY g (ZC (Qh C) f j d))) : Calls Tryz.prog 74 #[.pointer (some ⟨b,o,none⟩),.int .i64 p,.int .i64 d] w (Qgz w (Z2 (Qh C) f p d)):=by
 obtain ⟨a1,a2,M,N,O⟩:=info_parts Qfw;have K:=Qa h.set;have P:=Qa I;have a3:=Qa (Qmk C);have hb:=h.lt;clear h I;go_enter Tryz.func74,Tryz.ntmps74;go_wp2_with (first|(refine wpList_load_mid rfl 106 (.tmp 12) rfl b o rfl (QaC C 21) _ K.out Tryz.underlying106 rfl a3.out ?_));go_loopw [7,14] (λR B wr=>∃ (m:Nat) (pv:Value) (Ns:List (Value × List TN)),m<=21/\pv=R/\B=.int .i64 m/\Hid (Ns.length<=m)/\Hid (ZN w.heap.size wr pv Ns)/\Hid ((QG Ns).map TN.pn=QgF (Qh C) f p d m)/\Hid (Below w.heap.size w wr)) (λ_ B _=>21-(intOf B).toNat);·exact ⟨0,_,[],by omega,rfl,rfl,Qa (Nat.le_refl _),Qa (ZN.nil _ _),Qa rfl,Qa (Below.refl _ _)⟩
 case round =>
  obtain ⟨m,pv,Ns,a9,rfl,rfl,q,k,r,a⟩:=hrel;by_cases E:m<21
  ·have F:∀ g:World,(Instr.index 106 (.agg (QaC C 21).toArray) (.int .i64 m)).run Tryz.prog g=.ok (.agg #[.bool (C m).on,.int .i64 (C m).gen,.int .i64 (C m).par,.int .i64 (C m).fa,.int .i64 (C m).fb,.int .i64 (C m).fc,.slice (C m).no (C m).nn (C m).nc]) g:=λg=>QmN C m E g;have aa:(m:Int)<21:=by omega
   have l:=Qa (Qnh (Qh C) f p d m);have c:Hid (Q9 (Qh C) p m=((C m).on&&(C m).par==(p:Int))):=Qa rfl;cases n:(C m).on with
   | false =>
    rw [n] at F c;rw [c.out] at l;clear n;go_wp2;go_roundw;·exact ⟨m+1,pv,Ns,by omega,rfl,by go_num,Qa (by have:=q.out;omega),Qa (k.out.below ((Below.refl _ _).alloc (Nat.le_refl _) _)),Qa (by rw [l.out];simpa using r.out),Qa (a.out.alloc a.out.size _)⟩
    simp [intOf];omega
   | true =>
    rw [n] at F c;cases J:((C m).par==(p:Int)) with
    | false =>
     rw [J] at c;rw [c.out] at l;clear n;go_wp2;go_roundw;·exact ⟨m+1,pv,Ns,by omega,rfl,by go_num,Qa (by have:=q.out;omega),Qa (k.out.below ((Below.refl _ _).alloc (Nat.le_refl _) _)),Qa (by rw [l.out];simpa using r.out),Qa (a.out.alloc a.out.size _)⟩
     simp [intOf];omega
    | true =>
     rw [J] at c;rw [c.out] at l;have a4:Hid (∀ A,Calls Tryz.prog 110 #[.pointer (some ⟨b,o,none⟩),.int .i64 m,.int .i64 d] (wr.alloc A) (QfY (wr.alloc A) (ZC (Qh C) f m d))):=Qa λA=>P.out m E c.out _ (a.out.alloc a.out.size A);have L:Hid (∀ A w2 D,Below (wr.alloc A).heap.size (wr.alloc A) w2->Below w2.heap.size w2 D->D.ownsRow w.heap.size 41 1 pv Ns.length (Ns.map (·.1))):=Qa λA w2 D a5 a6=>Zi (Zi (Zi k.out.row ((Below.refl _ _).alloc (Nat.le_refl _) A)) a5) a6;have S:=a.out.size;have a8:=q.out;clear n;go_wp2_with (first|(go_at_call 110;refine (a4.out _).mono ?_;rintro e w2 ⟨ab,i,rfl,v,G,x⟩;obtain ⟨s,t,rfl⟩:=Qz v.row;have T:=Qa v;have U:=Qa G;have y:=Qa x;have V:=x.size;clear v G x)|(at_builtin;refine Jf _ rfl (.tmp 26) (.tmp 31) 78 rfl w.heap.size 41 a1 _ 1 24 Tryz.underlying78 a2 M N O rfl pv Ns.length (Ns.map (·.1)) rfl (L.out _ _ _ y.out ((Below.refl _ _).alloc (Nat.le_refl _) _)) (some ⟨w2.heap.size,0,none⟩) 1 1 [.slice s i.length t] rfl (by simp) rfl (Z9 _ _ _) (by simp [Value.oneCell']) (by omega) (by omega) (by simp at V ⊢;omega) ?_;intro W ac X H _));have Y:Below w2.heap.size w2 (w2.alloc (.cells #[.slice s i.length t] 41)):=(Below.refl _ _).alloc (Nat.le_refl _) _;have z:=(Below.refl wr.heap.size wr).alloc (Nat.le_refl _) (.cells #[.bool true,.int .i64 (C m).gen,.int .i64 (C m).par,.int .i64 (C m).fa,.int .i64 (C m).fb,.int .i64 (C m).fc,.slice (C m).no (C m).nn (C m).nc] 105);refine ⟨⟨m+1,W,Ns++[(.slice s i.length t,i)],by omega,rfl,by go_num,Qa (by simp;omega),Qa ((k.out.below z).snoc (by simp;omega) y.out T.out Y H.out X.out),Qa ?_,Qa ?_⟩,by simp [intOf];omega⟩
     ·have a7:QG (Ns++[(Value.slice s i.length t,i)])=QG Ns++i:=by unfold QG;simp
      rw [a7,map_append,r.out,U.out,l.out];rfl
     have u:Below w.heap.size wr w2:=(z.trans (y.out.mono z.size)).mono S;exact ((a.out.trans u).alloc (by have:=u.size;omega) _).grown H.out.by (by have:=u.size;simp;omega) (λb hb=>(k.out.row.lt b hb).1)
  have a0:m=21:=by omega
  subst a0;go_wp2;go_ret;exact ⟨_,Ns,rfl,k.out,r.out,q.out,a.out⟩
theorem ZN.join {j:Nat} {w w2 l:World} {pv B k:Value} {Ns d:List (Value × List TN)} (h:ZN j w pv Ns) (C:j<=w.heap.size) (u:Below w.heap.size w w2) (g:ZN w.heap.size w2 B d) (f:Zl w2 l pv k) (x:l.ownsRow j 41 1 k (Ns.length+d.length) (Ns.map (·.1)++d.map (·.1))):ZN j l k (Ns++d):=by
 have y:∀ b,pv.ownBlock=some b->b<w.heap.size:=λb e=>(h.row.lt b e).2;have t:∀ {v:Value},(∀ b,v.ownBlock=some b->w.heap.size<=b/\b<w2.heap.size)->(v.ownBlock=none \/ v.ownBlock≠pv.ownBlock)/\v.ownBlock≠some w2.heap.size:=fun {v} i=>by
  cases z:v.ownBlock with
  | none=>exact ⟨.inl rfl,by simp⟩
  | some b =>
   have:=i b z;refine ⟨.inr λe=>?_,λe=>?_⟩
   ·have:=y b e.symm;omega
   have e:=Option.some.inj e;omega
 have s:∀ {v:Value},(∀ b,v.ownBlock=some b->b<w.heap.size)->v.ownBlock≠some w2.heap.size:=fun {v} i e=>by have:=i _ e;have:=u.size;omega
 have o:∀ p,p ∈ d->(p.1.ownBlock=none \/ p.1.ownBlock≠pv.ownBlock)/\p.1.ownBlock≠some w2.heap.size:=λp a=>t λb e=>(g.tell p a).row.lt b e;have q:∀ p,p ∈ d->∀ n,n ∈ p.2->(n.av.ownBlock=none \/ n.av.ownBlock≠pv.ownBlock)/\n.av.ownBlock≠some w2.heap.size:=λp a n c=>t λb e=>((g.tell p a).node n c).row.lt b e;refine ⟨by rw [length_append,map_append];exact x,λp a=>?_,λp a=>?_,?_⟩
 ·rcases mem_append.1 a with a|a
  ·exact ((h.tell p a).below u).kept f.by (h.off p a).1 (h.off p a).2
  exact ((g.tell p a).ge C).kept f.by (o p a).1 λn c=>(q p a n c).1
 ·rcases mem_append.1 a with a|a
  ·exact ⟨QbW f (h.off p a).1 (s λb e=>((h.tell p a).row.lt b e).2),λn c=>QbW f ((h.off p a).2 n c) (s λb e=>(((h.tell p a).node n c).row.lt b e).2)⟩
  exact ⟨QbW f (o p a).1 (o p a).2,λn c=>QbW f (q p a n c).1 (q p a n c).2⟩
 have e:QG (Ns++d)=QG Ns++QG d:=by unfold QG;rw [flatMap_append]
 rw [e,pairwise_append];refine ⟨h.far,g.far,λm r n c=>?_⟩;obtain ⟨p,a,r⟩:=mem_flatMap.1 r;obtain ⟨D,A,c⟩:=mem_flatMap.1 c;cases i:n.av.ownBlock with| none=>exact .inl rfl| some b =>right;intro e;have E:=(((g.tell D A).node n c).row.lt b i).1;have F:=(((h.tell p a).node m r).row.lt b e.symm).2;omega
theorem Qug (i:Nat) (c w:World) (d:Int) (tag:ByteArray) (key:Int) (ats:List (ByteArray × ByteArray)) (ao:Option Addr) (ac:Nat) (k:Option Addr) (m l:Nat) (Ns:List (Value × List TN)) (o:ZN i c (.slice k m l) Ns) (E:m=Ns.length) (u:i<=c.heap.size) (hb:Below c.heap.size c w) (t:w.ownsRow c.heap.size 96 2 (.slice ao ats.length ac) ats.length (QM ats)) (C:∀ x,x ∈ ats->x.1.size<=maxLen/\x.2.size<=maxLen) (A:tag.size<=maxLen) (B:(QG Ns).length<=1000000) (D:m<=1000000) : Calls Tryz.prog 73 #[.agg #[.int .i64 d,.string tag,.int .i64 key,.slice ao ats.length ac,.string ⟨#[]⟩],.slice k m l] w λe w'=>∃ q,e=.returned q/\ZB i w' q (⟨d,tag,key,⟨#[]⟩,ats,ao,ats.length,ac⟩::QG Ns)/\Below w.heap.size w w':=by
 subst E;have f:=o.below hb;refine (QfF i w ⟨d,tag,key,⟨#[]⟩,ats,ao,ats.length,ac⟩ k l Ns Ns.length rfl (Nat.le_trans u hb.size) (λj r=>?_) (λa e=>?_) (λj r=>f.tell _ (getElem_mem r)) ⟨rfl,A,by show (0:Nat)<=_;omega,Qbv t u,C,?_⟩ ?_ B D).mono ?_
 ·rcases f.row.2 with ⟨e,F⟩|⟨g,cap,H,e,_,I,_⟩
  ·omega
  injection e with e1 F e3;refine ⟨g,e1,?_⟩;have v:=f.row;rw [e1] at v;have:=v.cellAt j (by omega);rw [this,getElem?_map,getElem?_eq_getElem r];rfl
 ·exact (f.row.lt a.block (by rw [e];rfl)).2
 ·cases h:(Value.slice ao ats.length ac).ownBlock with| none=>exact .inl h| some b=>exact .inr (by show (Value.slice ao ats.length ac).ownBlock≠none;rw [h];simp)
 ·refine pairwise_cons.2 ⟨λn s=>?_,o.far⟩;obtain ⟨p,G,s⟩:=mem_flatMap.1 s;cases h:n.av.ownBlock with| none=>exact .inl rfl| some b =>right;intro e;have e:some b=(Value.slice ao ats.length ac).ownBlock:=e;have y:=(((o.tell p G).node n s).row.lt b h).2;have z:=(t.lt b e.symm).1;omega
 rintro e w' ⟨q,rfl,y,z,_⟩;exact ⟨q,rfl,y,z⟩
theorem QuY {x:Pc} (h:Qg x.fa/\Qg x.fb/\Qg x.fc):∀ b,b ∈ JY x->b.1.size<=maxLen/\b.2.size<=maxLen:=by
 intro b a;have c:(1:Nat)<=maxLen:=by unfold maxLen;omega
 unfold JY at a;rcases mem_append.1 a with a|a
 ·rcases mem_append.1 a with a|a
  ·split at a
   ·rw [mem_singleton.1 a];exact ⟨c,Qfi h.1⟩
   cases a
  split at a
  ·rw [mem_singleton.1 a];exact ⟨c,Qfi h.2.1⟩
  cases a
 split at a
 ·rw [mem_singleton.1 a];exact ⟨c,Qfi h.2.2⟩
 cases a
theorem Qmj {w:World} {d n c size:Nat} {e:TypeId} {ao:Option Addr} {xs:List Value} (h:w.ownsRow d e size (.slice ao n c) n xs):ao=none->n=0/\c=0:=λe=>by
 rcases h.2 with ⟨a,b⟩|⟨g,cap,f,a,_⟩
 ·exact ⟨b,(Value.slice.inj a).2.2⟩
 rw [e] at a;cases (Value.slice.inj a).1
theorem Qr8 {d:Nat} {w:World} {pv:Value} {Ns:List (Value × List TN)} (h:ZN d w pv Ns):∀ u ∈ Ns.map (·.1),u.oneCell'=true:=λu a=>by obtain ⟨p,b,rfl⟩:=mem_map.1 a;obtain ⟨ao,c,e⟩:=Qz (h.tell p b).row;rw [e];rfl
theorem Qrx (b aa f k:Nat) (d:Int) (C:Nat->Cm) (w:World) (h:Qct w b aa C) (V:k<21) (bh:0<=d/\d<=20) (W:∀ x,x ∈ (C k).ns->0<=x/\x<=30) (bi:(C k).ns.length<=8) (a5:Qg (C k).fa/\Qg (C k).fb/\Qg (C k).fc) (af:(Z2 (Qh C) f k (d+1)).length<=100000) (aA:∀ c,Below w.heap.size w c->Calls Tryz.prog 74 #[.pointer (some ⟨b,aa,none⟩),.int .i64 k,.int .i64 (d+1)] c (Qgz c (Z2 (Qh C) f k (d+1)))) : Calls Tryz.prog 110 #[.pointer (some ⟨b,aa,none⟩),.int .i64 k,.int .i64 d] w (QfY w (ZC (Qh C) (f+1) k d)):=by
 obtain ⟨aB,aC,al,ap,aq⟩:=info_parts Qfw;obtain ⟨aU,aV,aW,aX,aY,aZ,b0⟩:=h.set.cm k V;have ar:=(h.nums k V).2;have bj:(0:Int)<=(k:Int):=by omega
 have bk:(k:Int)<21:=by omega
 have aG:=Qa (h.nums k V).1;have aH:Hid (∀ a,(C k).no=some a->a.block<w.heap.size):=Qa λa e=>h.nlt k a V e;have aJ:Hid (∀ c,Below w.heap.size w c->Gl c):=Qa λc X=>h.gl.below X;have b1:=Qa W;have aK:=Qa aA;have b2:Hid (∀ c,Below w.heap.size w c->Calls Tryz.prog 151 #[.agg #[.bool (C k).on,.int .i64 (C k).gen,.int .i64 (C k).par,.int .i64 (C k).fa,.int .i64 (C k).fb,.int .i64 (C k).fc,.slice (C k).no (C k).nn (C k).nc]] c λe w'=>∃ v,e=.returned v/\w'.ownsRow c.heap.size 96 2 v (JY (Qh C k)).length (QM (JY (Qh C k)))/\Below c.heap.size c w'):=Qa λc X=>Qtv (C k) a5 c λbl N=>h.gl.below (X.trans (N.mono X.size));have ag:=Qa (QuY (x:=Qh C k) a5);have ah:=Qa af;have aD:Hid (ZC (Qh C) (f+1) k d=QbC (Qh C) k d::((C k).ns.flatMap (Z4 (d+1))++Z2 (Qh C) f k (d+1))):=Qa (QdG _ _ _ _);have bf:(C k).nn<=8:=by omega
 have au:=Qa ar;clear h W aA a5 af ar;go_enter Tryz.func110,Tryz.ntmps110;go_wp2_with fail;have I:=Qa ((Below.refl w.heap.size w).alloc (Nat.le_refl _) (.cells #[.bool (C k).on,.int .i64 (C k).gen,.int .i64 (C k).par,.int .i64 (C k).fa,.int .i64 (C k).fb,.int .i64 (C k).fc,.slice (C k).no (C k).nn (C k).nc] 105));have av:Hid ((w.alloc (.cells #[.bool (C k).on,.int .i64 (C k).gen,.int .i64 (C k).par,.int .i64 (C k).fa,.int .i64 (C k).fb,.int .i64 (C k).fc,.slice (C k).no (C k).nn (C k).nc] 105)).heap[w.heap.size]?=some (.cells #[.bool (C k).on,.int .i64 (C k).gen,.int .i64 (C k).par,.int .i64 (C k).fa,.int .i64 (C k).fb,.int .i64 (C k).fc,.slice (C k).no (C k).nn (C k).nc] 105 (0,0))):=Qa (heap_alloc_new w _);generalize (w.alloc (.cells #[.bool (C k).on,.int .i64 (C k).gen,.int .i64 (C k).par,.int .i64 (C k).fa,.int .i64 (C k).fb,.int .i64 (C k).fc,.slice (C k).no (C k).nn (C k).nc] 105))=i at *;have J:w.heap.size<i.heap.size:=QN av.out;clear aU aV aW aX aY aZ b0;go_loopw [8,20] (λaL a6 wr=>∃ (m:Nat) (pv:Value) (Ns:List (Value × List TN)),m<=(C k).nn/\pv=aL/\a6=.int .i64 m/\Hid (Ns.length=m)/\Hid (ZN i.heap.size wr pv Ns)/\Hid ((QG Ns).map TN.pn=((C k).ns.take m).flatMap (Z4 (d+1)))/\Hid (Below i.heap.size i wr)) (λ_ a6 _=>(C k).nn-(intOf a6).toNat);·exact ⟨0,_,[],Nat.zero_le _,rfl,rfl,Qa rfl,Qa (ZN.nil _ _),Qa rfl,Qa (Below.refl _ _)⟩
 case round =>
  obtain ⟨m,pv,Ns,bm,rfl,rfl,z,r,Y,D⟩:=hrel;have P:=D.out.size;by_cases bg:m<(C k).nn
  ·have a0:m<(C k).ns.length:=by have:=au.out;omega
   have bn:(m:Int)<((C k).nn:Int):=by omega
   obtain ⟨g,aE,ab⟩:=aG.out m _ (getElem?_eq_getElem a0);have a1:=aH.out _ aE;have cm:wr.cell? ⟨g,m,none⟩=some (.int .i64 (C k).ns[m]):=(World.cell?_of_block (D.out.block g (by have:=I.out.size;simp only at a1;omega))).trans ((I.out.cell (p:=⟨g,m,none⟩) a1).trans ab);have b3:=Qa (QnC (C k).ns[m] (d+1) (b1.out _ (getElem_mem a0)) (by omega) wr (aJ.out wr (I.out.trans (D.out.mono (Nat.le_of_lt J)))).tab);have b4:Hid (((C k).ns.take (m+1)).flatMap (Z4 (d+1))=((C k).ns.take m).flatMap (Z4 (d+1))++Z4 (d+1) (C k).ns[m]):=Qa (by rw [take_succ_eq_append_getElem a0,flatMap_append];simp);have O:Hid (∀ w2 a7,Below wr.heap.size wr w2->Below w2.heap.size w2 a7->a7.ownsRow i.heap.size 41 1 pv m (Ns.map (·.1))):=Qa λw2 a7 N b5=>by have:=Zi (Zi r.out.row N) b5;rwa [z.out] at this
   rw [aE];generalize (C k).ns[m]=x at *;clear ab a1;go_wp2_with (first|(go_at_call 150;refine b3.out.mono ?_;rintro e w2 ⟨bo,t,rfl,a2,K,s⟩;obtain ⟨E,F,rfl⟩:=Qz a2.row;have aM:=Qa a2;have R:=Qa K;have o:=Qa s;have aN:=s.size;clear a2 K s)|(at_builtin;refine Jf _ rfl (.tmp 24) (.tmp 29) 78 rfl i.heap.size 41 aB _ 1 24 Tryz.underlying78 aC al ap aq rfl pv m (Ns.map (·.1)) rfl (O.out _ _ o.out ((Below.refl _ _).alloc (Nat.le_refl _) _)) (some ⟨w2.heap.size,0,none⟩) 1 1 [.slice E t.length F] rfl (by simp) rfl (Z9 _ _ _) (by simp [Value.oneCell']) (by omega) (by omega) (by simp;omega) ?_;intro S l T A _));have aO:Below w2.heap.size w2 (w2.alloc (.cells #[.slice E t.length F] 41)):=(Below.refl _ _).alloc (Nat.le_refl _) _;refine ⟨⟨m+1,S,Ns++[(.slice E t.length F,t)],by omega,rfl,by go_num,Qa (by simp [z.out]),Qa (r.out.snoc P o.out aM.out aO A.out (by rw [z.out];exact T.out)),Qa ?_,Qa ?_⟩,by simp [intOf];omega⟩
   ·have aF:QG (Ns++[(Value.slice E t.length F,t)])=QG Ns++t:=by unfold QG;simp
    rw [aF,map_append,Y.out,R.out,b4.out]
   have aI:Below i.heap.size wr w2:=o.out.mono P;exact ((D.out.trans aI).alloc (by omega) _).grown A.out.by (by simp;omega) (λb hb=>(r.out.row.lt b hb).1)
  have aP:m=(C k).nn:=by omega
  subst aP;have aQ:=Qa (aK.out wr (I.out.trans (D.out.mono (Nat.le_of_lt J))));have ai:Hid ((QG Ns).map TN.pn=(C k).ns.flatMap (Z4 (d+1))):=Qa (by rw [Y.out,au.out,take_length]);clear Y;have O:Hid (∀ w2,Below wr.heap.size wr w2->w2.ownsRow i.heap.size 41 1 pv (C k).nn (Ns.map (·.1))):=Qa λw2 N=>by have:=Zi r.out.row N;rwa [z.out] at this
  go_wp2_with (first|(go_at_call 74;refine aQ.out.mono ?_;rintro e w2 ⟨bp,j,rfl,B,K,bd,s⟩;obtain ⟨E,F,rfl⟩:=Qz B.row;have aw:=Qa B;have R:=Qa K;have o:=Qa s;have aN:=s.size;have ad:=Qa (Qmj B.row);have ae:=Qa (λx W k u b6=>Qgl B.row (x:=x) W (k:=k) (u:=u) b6);have ax:Hid ((j.map (·.1)).length=j.length*1):=Qa (by rw [length_map,Nat.mul_one]);have aj:Hid (∀ u ∈ j.map (·.1),u.oneCell'=true):=Qa (Qr8 B);clear B K s)|(at_builtin;refine Jf _ rfl (.tmp 32) (.tmp 37) 78 rfl i.heap.size 41 aB _ 1 24 Tryz.underlying78 aC al ap aq rfl pv (C k).nn (Ns.map (·.1)) rfl (O.out _ o.out) E j.length F (j.map (·.1)) rfl ad.out ax.out ae.out aj.out (by omega) (by omega) (by omega) ?_;intro S l T A _;refine Hid.out ?_));refine Lib.hid ?_;have a3:ZN i.heap.size l S (Ns++j):=r.out.join P o.out aw.out A.out (by rw [z.out];exact T.out);have U:Below i.heap.size i l:=(D.out.trans (o.out.mono P)).grown A.out.by (by omega) (λb hb=>(r.out.row.lt b hb).1);have n:l.heap[w.heap.size]?=some (.cells #[.bool (C k).on,.int .i64 (C k).gen,.int .i64 (C k).par,.int .i64 (C k).fa,.int .i64 (C k).fb,.int .i64 (C k).fc,.slice (C k).no (C k).nn (C k).nc] 105 (0,0)):=(U.block _ J).trans av.out;have M:Below w.heap.size w l:=I.out.trans (U.mono (Nat.le_of_lt J));have aR:=Qa (b2.out l M);obtain ⟨G,H,L,ay,rfl⟩:∃ G H L,Hid (L=(Ns++j).length)/\S=.slice G L H:=by obtain ⟨G,H,e⟩:=Qz a3.row;exact ⟨G,H,_,Qa rfl,e⟩
  have aS:Ns.length=(C k).nn:=z.out;have b7:Hid (∀ y (ao:Option Addr) (ac:Nat),Below l.heap.size l y->y.ownsRow l.heap.size 96 2 (.slice ao (JY (Qh C k)).length ac) (JY (Qh C k)).length (QM (JY (Qh C k)))->Calls Tryz.prog 73 #[.agg #[.int .i64 d,.string ⟨#[99]⟩,.int .i64 k,.slice ao (JY (Qh C k)).length ac,.string ⟨#[]⟩],.slice G L H] y (QfY w (ZC (Qh C) (f+1) k d))):=Qa λy ao ac a8 a9=>by
   have ak:(QG (Ns++j)).map TN.pn=(C k).ns.flatMap (Z4 (d+1))++Z2 (Qh C) f k (d+1):=by
    have e:QG (Ns++j)=QG Ns++QG j:=by unfold QG;rw [flatMap_append]
    rw [e,map_append,ai.out,R.out]
   have b8:(QG (Ns++j)).length<=1000000:=by rw [<- length_map (f:=TN.pn),ak,length_append,Qjg];have:=ah.out;omega
   refine (Qug i.heap.size l y d ⟨#[99]⟩ k (JY (Qh C k)) ao ac G L H (Ns++j) a3 ay.out U.size a8 a9 ag.out (by show (1:Nat)<=_;unfold maxLen;omega) b8 (by have:=ay.out;rw [length_append] at this;omega)).mono ?_;rintro e w' ⟨q,rfl,b9,ba⟩;refine ⟨q,_,rfl,b9.ge (Nat.le_of_lt J),?_,M.trans ((a8.mono M.size).trans (ba.mono (Nat.le_trans M.size a8.size)))⟩;rw [map_cons,ak,aD.out];rfl
  have bq:=Qf n 0 _ rfl;have aF:=Qf n 1 _ rfl;have br:=Qf n 2 _ rfl;have bs:=Qf n 3 _ rfl;have bt:=Qf n 4 _ rfl;have bu:=Qf n 5 _ rfl;have bv:=Qf n 6 _ rfl;clear a3 U n M aS O ad ae ax aj aw R r o T A ai aD ag ah;generalize JY (Qh C k)=ats at *;go_wp2_with (first|(go_at_call 151;refine aR.out.mono ?_;rintro e y ⟨bw,rfl,a4,az⟩;obtain ⟨ao,ac,rfl⟩:=Qz a4;have aT:=Qa (b7.out y ao ac az a4);clear a4 az)|(go_at_call 73;refine aT.out.mono ?_;rintro e bx ⟨bb,bc,rfl,a9⟩));go_ret;exact ⟨bb,bc,rfl,a9⟩
theorem Qjl (g:Nat->Nat) (p:Nat):∀ n,p<n->g p<=su n g
 | 0,h=>by omega
 | n+1,h=>by
  unfold su;by_cases e:p=n
  ·subst e;omega
  have:=Qjl g p n (by omega);omega
theorem Qop {b:Int} {C:Nat->Pc} (h:QY b C) (a:Nat->Nat) (e:Nat):Zs C a e (λj=>1+2*(C j).ns.length)<=357:=by unfold Zs;refine Nat.le_trans (Qee 21 (h:=λ_=>17) λj _=>?_) (by rw [QiP];omega);have:=h.few j;show (if (C j).on=true/\a j=e then 1+2*(C j).ns.length else 0)<=17;split<;>omega
theorem QjH {c:Int} {C:Nat->Pc} (h:QY c C) {a:Nat->Nat} (b:Deep C a):∀ f e,Zs C a e (wn C f)<=f*357| 0,e=>by rw [Qlx];omega| f+1,e=>by have d:=QeX b h.zero f e;have g:=Qop h a (e+1);have i:=QjH h b f (e+1);omega
theorem QqS {m:Int} {C:Nat->Pc} (h:QY m C) {a:Nat->Nat} (c:Deep C a) (f p:Nat) (d:Int) (g:p<21) (b:(C p).on=true) (i:f<=20):(Z2 C f p d).length<=100000:=by rw [QhZ];have k:=Qjl (λj=>if (C j).on=true/\a j=a p then wn C f j else 0) p 21 g;simp only [b,true_and,if_true] at k;have l:=QjH h c f (a p);unfold Zs at l;have:f*357<=20*357:=Nat.mul_le_mul_right _ i;omega
theorem Qo8 (b l:Nat) (C:Nat->Cm) {A:Int} (g:QY A (Qh C)) (s:Nat->Nat) (m:Deep (Qh C) s):∀ (f p:Nat) (d:Int) (w:World),Qct w b l C->(∀ j,j<21->Q9 (Qh C) p j=true->5<=f+s j)->0<=d->d+f<=20 -> Calls Tryz.prog 74 #[.pointer (some ⟨b,l,none⟩),.int .i64 p,.int .i64 d] w (Qgz w (Z2 (Qh C) f p d)):=by
 have n:∀ p j,Q9 (Qh C) p j=true->(Qh C j).on=true/\(Qh C j).par=p:=λp j c=>by unfold Q9 at c;simpa only [Bool.and_eq_true,beq_iff_eq] using c
 intro f;induction f with
 | zero =>intro p d w h r _ _;refine Qi7 b l 0 p d C w h λj k c=>?_;have:=r j k c;have:=m.five j (n p j c).1;omega
 | succ f ih =>
  intro p d w h r u D;refine Qi7 b l (f+1) p d C w h λj k c B t=>?_;have o:=(n p j c).1;have E:=r j k c;have F:j≠0:=λe=>by rw [e,g.zero] at o;cases o
  refine Qrx b l f j d C B (h.below t) k ⟨u,by omega⟩ (g.nums j) (g.few j) (g.flds j) (QqS g m f j _ k o (by omega)) λx y=>?_;refine ih j (d+1) x ((h.below t).below y) (λi G v=>?_) (by omega) (by omega);obtain ⟨z,H⟩:=n j i v;rcases m.up i z with ⟨a,_⟩|⟨q,I,J,K,L,M⟩
  ·omega
  have:q=j:=by omega
  subst this;omega
def QgA (w:World) (P:List Pn) (e:Ending) (w':World):Prop:=∃ q a,e=.returned q/\ZB w.heap.size w' q a/\a.map TN.pn=P/\Below w.heap.size w w'
theorem Qqk (f:Nat) (w:World) (d:Int) (tag:ByteArray) (key:Int) (ats:List (ByteArray × ByteArray)) (ao:Option Addr) (ac:Nat) (i:Option Addr) (m k:Nat) (Ns:List (Value × List TN)) (c:ZN f w (.slice i m k) Ns) (A:m=Ns.length) (B:f<=w.heap.size) (v:w.ownsRow f 96 2 (.slice ao ats.length ac) ats.length (QM ats)) (s:∀ b,(Value.slice ao ats.length ac).ownBlock=some b->∀ p,p ∈ Ns->∀ n,n ∈ p.2->n.av.ownBlock≠some b) (y:∀ x,x ∈ ats->x.1.size<=maxLen/\x.2.size<=maxLen) (t:tag.size<=maxLen) (u:(QG Ns).length<=1000000) (z:m<=1000000) : Calls Tryz.prog 73 #[.agg #[.int .i64 d,.string tag,.int .i64 key,.slice ao ats.length ac,.string ⟨#[]⟩],.slice i m k] w λe w'=>∃ q,e=.returned q/\ZB f w' q (⟨d,tag,key,⟨#[]⟩,ats,ao,ats.length,ac⟩::QG Ns)/\Below w.heap.size w w':=by
 subst A;refine (QfF f w ⟨d,tag,key,⟨#[]⟩,ats,ao,ats.length,ac⟩ i k Ns Ns.length rfl B (λj l=>?_) (λa e=>?_) (λj l=>c.tell _ (getElem_mem l)) ⟨rfl,t,by show (0:Nat)<=_;omega,v,y,?_⟩ ?_ u z).mono ?_
 ·rcases c.row.2 with ⟨e,C⟩|⟨g,cap,G,e,_,H,_⟩
  ·omega
  injection e with e1 C e3;refine ⟨g,e1,?_⟩;have r:=c.row;rw [e1] at r;have:=r.cellAt j (by omega);rw [this,getElem?_map,getElem?_eq_getElem l];rfl
 ·exact (c.row.lt a.block (by rw [e];rfl)).2
 ·cases h:(Value.slice ao ats.length ac).ownBlock with| none=>exact .inl h| some b=>exact .inr (by show (Value.slice ao ats.length ac).ownBlock≠none;rw [h];simp)
 ·refine pairwise_cons.2 ⟨λn o=>?_,c.far⟩;obtain ⟨p,D,o⟩:=mem_flatMap.1 o;cases h:n.av.ownBlock with| none=>exact .inl rfl| some b =>right;intro e;have e:some b=(Value.slice ao ats.length ac).ownBlock:=e;exact s b e.symm p D n o h
 rintro e w' ⟨q,rfl,E,F,_⟩;exact ⟨q,rfl,E,F⟩
theorem ZN.ge {c a:Nat} {w:World} {pv:Value} {Ns:List (Value × List TN)} (h:ZN c w pv Ns) (b:a<=c):ZN a w pv Ns := ⟨Qbv h.row b,λp d=>(h.tell p d).ge b,h.off,h.far⟩
theorem Qkl (b D:Nat) (C:Nat->Cm) {aa:Int} (A:QY aa (Qh C)) (v:Int) (G:Qg v) (w:World) (h:Qct w b D C) : Calls Tryz.prog 41 #[.pointer (some ⟨b,D,none⟩),.int .i64 v] w (QgA w (QJ (Qh C) v)):=by
 obtain ⟨a5,L⟩:=A.deep;have R:=Qa (QhV v G w h.gl.tab);have a6:Hid (∀ g,Below w.heap.size w g->Calls Tryz.prog 74 #[.pointer (some ⟨b,D,none⟩),.int .i64 0,.int .i64 1] g (Qgz g (Z2 (Qh C) 5 0 1))):=Qa λg u => Qo8 b D C A a5 L 5 0 1 g (h.below u) (λj _ _=>by omega) (by omega) (by omega);have K:∀ Ns:List (Value × List TN),(QG Ns).map TN.pn=Z2 (Qh C) 5 0 1->(QG Ns).length<=1000000:=λNs e=>by rw [<- length_map (f:=TN.pn),e];have:=Qd9 A v;unfold QJ at this;rw [length_cons] at this;omega
 have M:∀ x,x ∈ [((⟨#[118]⟩:ByteArray),QZ v)]->x.1.size<=maxLen/\x.2.size<=maxLen:=λx a7=>by rw [mem_singleton.1 a7];exact ⟨by show (1:Nat)<=_;unfold maxLen;omega,Qfi G⟩
 have N:∀ (w2 g:World) (ao:Option Addr) (ac:Nat) (c:Option Addr) (m d:Nat) (Ns:List (Value × List TN)),Below w.heap.size w g->ZN w.heap.size g (.slice c m d) Ns->m=Ns.length->m<=21->(QG Ns).map TN.pn=Z2 (Qh C) 5 0 1->g.ownsRow w.heap.size 96 2 (.slice ao 1 ac) 1 [.string ⟨#[118]⟩,.string (QZ v)]->(∀ b,(Value.slice ao 1 ac).ownBlock=some b->∀ p,p ∈ Ns->∀ n,n ∈ p.2->n.av.ownBlock≠some b) -> Calls Tryz.prog 73 #[.agg #[.int .i64 0,.string ⟨#[117,105]⟩,.int .i64 0,.slice ao 1 ac,.string ⟨#[]⟩],.slice c m d] g λe w'=>QgA w (QJ (Qh C) v) e w'/\Below g.heap.size g w':=λ_ g ao ac c m d Ns u l y ab o a0 Y=>by refine (Qqk w.heap.size g 0 ⟨#[117,105]⟩ 0 [(⟨#[118]⟩,QZ v)] ao ac c m d Ns l y u.size a0 Y M (by show (2:Nat)<=_;unfold maxLen;omega) (K Ns o) (by omega)).mono ?_;rintro e w' ⟨q,rfl,a8,S⟩;refine ⟨⟨q,_,rfl,a8,?_,u.trans (S.mono u.size)⟩,S⟩;rw [map_cons,o];rfl
 have T:=Qa N;clear h A G L K M N;go_enter Tryz.func41,Tryz.ntmps41;go_wp2_with (first|(go_at_call 72;refine R.out.mono ?_;rintro e w1 ⟨rfl,E⟩));have r:Hid (Below w.heap.size w (w1.alloc (.cells #[.string ⟨#[118]⟩,.string (QZ v)] 96)).drew):=Qa (E.alloc E.size _).drew;have z:(w1.alloc (.cells #[.string ⟨#[118]⟩,.string (QZ v)] 96)).heap[w1.heap.size]?=some (.cells #[.string ⟨#[118]⟩,.string (QZ v)] 96 (0,0)):=heap_alloc_new w1 _;have ae:=Qf z 0 _ rfl;have af:=Qf z 1 _ rfl;have ad:=QN z;generalize w1.heap.size=q at *;generalize (w1.alloc (.cells #[.string ⟨#[118]⟩,.string (QZ v)] 96))=i at *;clear z E R;have s:w.heap.size<=i.heap.size:=r.out.size;have a1:Hid (∀ (a:World) (c:Option Addr) (m d:Nat) (Ns:List (Value × List TN)),ZN (i.heap.size+1) a (.slice c m d) Ns->m=Ns.length->(QG Ns).map TN.pn=Z2 (Qh C) 5 0 1->Ns.length<=21->Below (i.heap.size+1) (i.alloc (.cells #[.string ⟨#[118]⟩,.string (QZ v)] 96)).drew a->Calls Tryz.prog 73 #[.agg #[.int .i64 0,.string ⟨#[117,105]⟩,.int .i64 0,.slice (some ⟨i.heap.size,0,none⟩) 1 1,.string ⟨#[]⟩],.slice c m d] a λe w'=>QgA w (QJ (Qh C) v) e w'/\Below a.heap.size a w'):=Qa λa c m d Ns l y o B k=>by
  have t:Below w.heap.size w a:=((r.out.alloc s (.cells #[.string ⟨#[118]⟩,.string (QZ v)] 96)).trans (k.mono (by omega)));refine T.out a a _ 1 c m d Ns t (l.ge (by omega)) y (by omega) o (QT (Qh5 i.drew #[.string ⟨#[118]⟩,.string (QZ v)] 96 1 2 [.string ⟨#[118]⟩,.string (QZ v)] rfl rfl (by unfold maxLen;omega) w.heap.size s) λb e=>k.block b ?_) λb e p H n I J=>?_
  ·have e:some i.heap.size=some b:=e;have:=Option.some.inj e;omega
  have e:some i.heap.size=some b:=e;have:=Option.some.inj e;have:=(((l.tell p H).node n I).row.lt b J).1;omega
 have a2:Hid (∀ (a:World) (c:Option Addr) (m d:Nat) (Ns:List (Value × List TN)),ZN i.heap.size a (.slice c m d) Ns->m=Ns.length->(QG Ns).map TN.pn=Z2 (Qh C) 5 0 1->Ns.length<=21->Below i.heap.size i.drew a->Calls Tryz.prog 73 #[.agg #[.int .i64 0,.string ⟨#[117,105]⟩,.int .i64 0,.slice (some ⟨a.heap.size,0,none⟩) 1 1,.string ⟨#[]⟩],.slice c m d] (a.alloc (.cells #[.string ⟨#[118]⟩,.string (QZ v)] 96)) λe w'=>QgA w (QJ (Qh C) v) e w'/\Below (a.alloc (.cells #[.string ⟨#[118]⟩,.string (QZ v)] 96)).heap.size (a.alloc (.cells #[.string ⟨#[118]⟩,.string (QZ v)] 96)) w'):=Qa λa c m d Ns l y o B k=>by have t:Below w.heap.size w a:=r.out.trans (k.mono s);have a3:=(Below.refl a.heap.size a).alloc (Nat.le_refl _) (.cells #[.string ⟨#[118]⟩,.string (QZ v)] 96);refine T.out a _ _ 1 c m d Ns (t.alloc t.size _) ((l.below a3).ge s) y (by omega) o (Qh5 a #[.string ⟨#[118]⟩,.string (QZ v)] 96 1 2 [.string ⟨#[118]⟩,.string (QZ v)] rfl rfl (by unfold maxLen;omega) w.heap.size t.size) λb e p H n I J=>?_;have e:some a.heap.size=some b:=e;have:=Option.some.inj e;have:=(((l.tell p H).node n I).row.lt b J).2;omega
 go_region_held3 (λw'=>w'.cell? ⟨q,0,none⟩=some (.string ⟨#[118]⟩)/\w'.cell? ⟨q,1,none⟩=some (.string (QZ v)))
   (first
     | go_keep
     | (go_split_ands
        refine ⟨?_,?_⟩
        all_goals (rw [k.cell (by simp;omega)];assumption))
     | (go_split_ands
        have a4:=k.size
        refine ⟨?_,?_⟩
        all_goals (rw [U.cell (by simp at a4 ⊢;omega)];assumption)))
   (first|(go_at_call 74;refine (a6.out _ (by first|exact r.out|exact r.out.alloc s _)).mono ?_;rintro e a ⟨pv,Ns,rfl,F,O,B,k⟩;obtain ⟨c,d,m,P,rfl⟩:∃ c d m,Hid (m=Ns.length)/\pv=.slice c m d:=(by obtain ⟨c,d,e⟩:=Qz F.row;exact ⟨c,d,_,Qa rfl,e⟩))|(go_at_call 73;first|(refine (a2.out a c m d Ns F P.out O B k).mono ?_;rintro e a9 ⟨⟨V,W,rfl,X⟩,U⟩)|(refine (a1.out a c m d Ns (by simpa using F) P.out O B (by simpa using k)).mono ?_;rintro e a9 ⟨⟨V,W,rfl,X⟩,U⟩)))
 all_goals go_wp2_with fail
 all_goals go_ret
 all_goals exact ⟨V,W,rfl,X⟩
def Ac.cells (a:Ac):List Value:=[.int .i64 a.kd,.int .i64 a.nm,.int .i64 a.pa,.int .i64 a.fl,.int .i64 a.n,.int .i64 a.m]
structure Tk where
 acts:List Ac
 half:Option Qm
 sent:Int
 ao:Option Addr
 ac:Nat
 hb:Nat
def Tk.hp (t:Tk):Value:=if t.half.isSome then .pointer (some ⟨t.hb,0,none⟩) else .pointer none
def Tk.cells (t:Tk):List Value:=[.slice t.ao t.acts.length t.ac,t.hp,.int .i64 t.sent]
structure Qb9 (κ:Qu) (w:World) (i:Nat) (t:Tk):Prop where
 acts:∀ j a,t.acts[j]?=some a->∃ g p,t.ao=some ⟨g,p,none⟩/\κ g=some (10+i)/\w.rangeAt g (p+j*6) a.cells
 cap:t.acts.length<=t.ac
 big:t.ac<=9223372036854775807
 half:∀ x,t.half=some x->κ t.hb=some (20+i)/\w.rangeAt t.hb 0 x.cells
structure QcE (κ:Qu) (w:World) (tg:Nat) (T:List Tk):Prop where
 role:0<T.length->κ tg=some 1
 row:∀ i t,T[i]?=some t->w.rangeAt tg (i*3) t.cells
 froz:0<T.length->∀ j,w.frozen? ⟨tg,j,none⟩=false
 each:∀ i t,T[i]?=some t->Qb9 κ w i t
structure Qdm (κ:Qu) (r:Nat) (w:World) (e:TypeId) (size:Nat) (v:Value) (n:Nat) (xs:List Value):Prop where
 row:w.ownsRow 0 e size v n xs
 role:∀ b,v.ownBlock=some b->κ b=some r
structure Dc where
 ρ:Qo
 nb:Int->Nat
 mb:Nat
 q:Nat
 R:List RN
 last:Int
structure QfQ (κ:Qu) (w:World) (D:Dc):Prop where
 dom:Qi D.ρ D.nb D.mb (some (D.nb 1)) w D.q D.R D.last
 role:∀ b,(D.ρ b).isSome=true->κ b=some 100
structure Ev where
 tk:Int
 kd:Int
 vs:Int
 up:Int
def evL (l:List Ev):List Value:=l.flatMap λe=>[.int .i64 e.tk,.int .i64 e.kd,.int .i64 e.vs,.int .i64 e.up]
def JN (l:List (Int × Int)):List Value:=l.flatMap λc=>[.int .i64 c.1,.int .i64 c.2]
structure Us where
 T:List Tk
 tao:Option Addr
 tg:Nat
 tc:Nat
 gv:Int
 tn:Int
 lk:List Qm
 lv:Value
 bt:List Qm
 bv:Value
 C:Nat->Cm
 D:Dc
 ev:List Ev
 ve:Value
 cm:List (Int × Int)
 vc:Value
structure QA (κ:Qu) (w:World) (u:Nat) (S:Us):Prop where
 c0:w.cell? ⟨u,0,none⟩=some (.slice S.tao S.T.length S.tc)
 ta:0<S.T.length->S.tao=some ⟨S.tg,0,none⟩
 c1:w.cell? ⟨u,1,none⟩=some (.int .i64 S.gv)
 c2:w.cell? ⟨u,2,none⟩=some (.int .i64 S.tn)
 c3:w.cell? ⟨u,3,none⟩=some S.lv
 c4:w.cell? ⟨u,4,none⟩=some S.bv
 c5:w.cell? ⟨u,152,none⟩=some (.pointer (some ⟨S.D.q,0,none⟩))
 c6:w.cell? ⟨u,153,none⟩=some S.ve
 c7:w.cell? ⟨u,154,none⟩=some S.vc
 cs:ZW κ w u 5 S.C
 ts:QcE κ w S.tg S.T
 rl:Qdm κ 2 w 167 8 S.lv S.lk.length (QH S.lk)
 rb:Qdm κ 3 w 167 8 S.bv S.bt.length (QH S.bt)
 re:Qdm κ 4 w 38 4 S.ve S.ev.length (evL S.ev)
 rc:Qdm κ 5 w 69 2 S.vc S.cm.length (JN S.cm)
 dc:QfQ κ w S.D
 gl:Gl w
 g0:κ 0=none
 g1:κ 1=none
structure Mv (κ κ':Qu) (P:Nat->Prop) (w w':World):Prop where
 far:Qx (λb=>∃ r,κ b=some r/\P r) w w'
 old:∀ b,b<w.heap.size->κ' b=κ b
 low:∀ b,(κ' b).isSome=true->b<w'.heap.size
theorem Mv.block {a c:Qu} {P:Nat->Prop} {w w':World} (h:Mv a c P w w') {b r:Nat} (d:b<w.heap.size) (hb:a b=some r) (f:¬ P r):w'.heap[b]?=w.heap[b]? := h.far.block b d λ⟨s,e,g⟩=>by rw [hb] at e;exact f (Option.some.inj e▸g)
theorem Qb9.mv {f o:Qu} {P:Nat->Prop} {w w':World} (m:Mv f o P w w') (n:∀ b,(f b).isSome=true->b<w.heap.size) {i:Nat} {t:Tk} (h:Qb9 f w i t) (q:¬ P (10+i)) (s:¬ P (20+i)):Qb9 o w' i t:=by
 refine ⟨λj a u=>?_,h.cap,h.big,λx y=>?_⟩
 ·obtain ⟨g,p,z,c,k⟩:=h.acts j a u;have d:=n g (by rw [c];rfl);exact ⟨g,p,z,(m.old g d).trans c,λr v l=>(World.cell?_of_block (m.block d c q)).trans (k r v l)⟩
 obtain ⟨c,k⟩:=h.half x y;have d:=n t.hb (by rw [c];rfl);exact ⟨(m.old _ d).trans c,λr v l=>(World.cell?_of_block (m.block d c s)).trans (k r v l)⟩
theorem QcE.mv {d k:Qu} {P:Nat->Prop} {w w':World} (m:Mv d k P w w') (g:∀ b,(d b).isSome=true->b<w.heap.size) {tg:Nat} {T:List Tk} (h:QcE d w tg T) (l:¬ P 1) (n:∀ r,10<=r->r<30->¬ P r) (q:T.length<=10):QcE k w' tg T:=by
 have o:∀ i t,T[i]?=some t->i<T.length:=λi t e=>(List.getElem?_eq_some_iff.1 e).1;have f:0<T.length->tg<w.heap.size:=λa=>g tg (by rw [h.role a];rfl);refine ⟨λa=>(m.old tg (f a)).trans (h.role a),λi t c r v p=>?_,λa j=>?_,λi t c=>?_⟩
 ·have a:0<T.length:=by have:=o i t c;omega
  exact (World.cell?_of_block (m.block (f a) (h.role a) l)).trans (h.row i t c r v p)
 ·exact (World.frozen?_of_block (m.block (f a) (h.role a) l)).trans (h.froz a j)
 have:=o i t c;exact (h.each i t c).mv m g (n _ (by omega) (by omega)) (n _ (by omega) (by omega))
theorem Qdm.mv {a d:Qu} {P:Nat->Prop} {w w':World} (m:Mv a d P w w') (c:∀ b,(a b).isSome=true->b<w.heap.size) {r:Nat} {e:TypeId} {size:Nat} {v:Value} {n:Nat} {xs:List Value} (h:Qdm a r w e size v n xs) (f:¬ P r):Qdm d r w' e size v n xs := ⟨QT h.row λb hb=>m.block (c b (by rw [h.role b hb];rfl)) (h.role b hb) f,λb hb=>(m.old b (c b (by rw [h.role b hb];rfl))).trans (h.role b hb)⟩
theorem QfQ.mv {a c:Qu} {P:Nat->Prop} {w w':World} (m:Mv a c P w w') (d:∀ b,(a b).isSome=true->b<w.heap.size) {D:Dc} (h:QfQ a w D) (f:¬ P 100):QfQ c w' D := ⟨h.dom.touch m.far λb hb ⟨r,e,g⟩=>by rw [h.role b hb] at e;exact f (Option.some.inj e▸g),λb hb=>(m.old b (d b (by rw [h.role b hb];rfl))).trans (h.role b hb)⟩
theorem ZW.mv {f d:Qu} {P:Nat->Prop} {w w':World} (m:Mv f d P w w') {u c:Nat} {C:Nat->Cm} (h:ZW f w u c C) (l:∀ k,k<21->¬ P (30+k)) (n:∀ j,c<=j->j<c+147->w'.cell? ⟨u,j,none⟩=w.cell? ⟨u,j,none⟩) (o:∀ j,w'.frozen? ⟨u,j,none⟩=w.frozen? ⟨u,j,none⟩):ZW d w' u c C:=by
 refine ⟨λj v i=>?_,λj=>(o j).trans (h.froz j),Nat.lt_of_lt_of_le h.lt m.far.size,(m.old u h.lt).trans h.role,λk a=>QT (h.row k a) λg e=>?_,λk g a e=>?_,m.low⟩
 ·have p:j<147:=by have:=(List.getElem?_eq_some_iff.1 i).1;rw [Qcx] at this;exact this
  rw [n _ (by omega) (by omega)];exact h.set j v i
 ·have b:=h.rrole k g a e;exact m.block (h.low g (by rw [b];rfl)) b (l k a)
 have b:=h.rrole k g a e;exact (m.old g (h.low g (by rw [b];rfl))).trans b
theorem Gl.mv {a b:Qu} {P:Nat->Prop} {w w':World} (m:Mv a b P w w') (h:Gl w) (c:a 0=none) (d:a 1=none):Gl w' := h.heap (m.far.block 0 h.pos λ⟨r,e,_⟩=>by rw [c] at e;cases e) (m.far.block 1 h.two λ⟨r,e,_⟩=>by rw [d] at e;cases e) m.far.size
theorem QA.below {c:Qu} {w w':World} {u:Nat} {S:Us} (h:QA c w u S) (d:S.T.length<=10) (hb:Below w.heap.size w w'):QA c w' u S:=by have m:Mv c c (λ_=>False) w w':=⟨.of_below hb,λ_ _=>rfl,λb e=>Nat.lt_of_lt_of_le (h.cs.low b e) hb.size⟩;have a:∀ j,w'.cell? ⟨u,j,none⟩=w.cell? ⟨u,j,none⟩:=λj=>hb.cell (p:=⟨u,j,none⟩) h.cs.lt;exact ⟨(a _).trans h.c0,h.ta,(a _).trans h.c1,(a _).trans h.c2,(a _).trans h.c3,(a _).trans h.c4,(a _).trans h.c5,(a _).trans h.c6,(a _).trans h.c7,h.cs.below hb,h.ts.mv m h.cs.low (λe=>e) (λ_ _ _ e=>e) d,h.rl.mv m h.cs.low (λe=>e),h.rb.mv m h.cs.low (λe=>e),h.re.mv m h.cs.low (λe=>e),h.rc.mv m h.cs.low (λe=>e),h.dc.mv m h.cs.low (λe=>e),h.gl.below hb,h.g0,h.g1⟩
structure QB (κ κ':Qu) (w w':World):Prop where
 far:Qx (λb=>(κ b).isSome=true) w w'
 old:∀ b,b<w.heap.size->κ' b=κ b
theorem Mv.out {b a:Qu} {P:Nat->Prop} {w w':World} (m:Mv b a P w w'):QB b a w w':=⟨m.far.mono λ_ _ ⟨_,e,_⟩=>by rw [e];rfl,m.old⟩
theorem QB.trans {d a c:Qu} {w w1 w2:World} (h:QB d a w w1) (k:QB a c w1 w2):QB d c w w2 := ⟨h.far.trans (k.far.mono λb _ e=>by
 by_cases hb:b<w.heap.size
 ·exact .inl (by rw [<- h.old b hb];exact e)
 exact .inr (by omega)),λb hb=>(k.old b (Nat.lt_of_lt_of_le hb h.far.size)).trans (h.old b hb)⟩
theorem QB.below {a:Qu} {w w':World} (hb:Below w.heap.size w w'):QB a a w w':=⟨.of_below hb,λ_ _=>rfl⟩
end Go.Proofs.YtobgcaemnpkbmaaGreatDoor
