import Derived.Test.YtobgcaemnpkbmaaGreatDoorC46
namespace Go.Proofs.YtobgcaemnpkbmaaGreatDoor
set_option maxRecDepth 100000
set_option maxHeartbeats 8000000
open Go.RowKit List
structure Qgj (w0:World) (B db u n:Nat) (wr:World) (κ:Qu) (S:Us) (o1 o2:Option Addr) (on:Nat) (N:List TN) (I:List Int):Prop where
 b:UiB w0 B db u n wr κ S
 nods:Qdx κ wr o1 N
 nums:Qde κ wr o2 I
 view:Qec S.D.R I N
 len:on=N.length
 few:on<=1000
theorem Qea.uib {g:World} {p k u:Nat} {A:List (List Ac)} {wr:World} {l:Qu} {S:Us} (h:Qea g p k u A wr l S) (r:∀ (j:Nat) q,A[j]?=some q->∀ a,a ∈ q->a.stays):UiB g p k u A.length wr l S:=by
 obtain ⟨y,z,B,C,D,E,F⟩:=h.ok.num;have G:=h.gv;refine ⟨h.c0,h.ui,h.ok,⟨λi t c a m=>?_,λi t x c b=>?_,λx b=>?_,λx b=>?_⟩,h.non,h.lt,h.arg,h.keep,h.book.n⟩
 ·obtain ⟨o,d,s,_,v,_⟩:=h.book.each i t c;rw [v] at m;exact r i o s a (mem_of_mem_drop m)
 ·obtain ⟨o,d,_,_,_,_,f⟩:=h.book.each i t c;rw [List.getElem?_replicate,b] at f;split at f<;>cases f
 ·have:=(h.ok.lk x b).2;omega
 have:=h.ok.batch;have:=h.ok.up0;have:=length_pos_of_mem b;omega
theorem QrB (U:Nat) (ao bq:Option Addr) (n c v bU:Nat) (A:List (List Ac)) (ak:Nat->Int) (w:World) (br:n=A.length) (cu:n<=4) (cv:U<=w.heap.size) (ce:n<=maxLen) (b9:∀ (j:Nat) q,A[j]?=some q->q.length<=maxLen) (ch:v<=20000000000000) (bs:JI U w ao A) (aj:QeI U w bq v ak) (ba:∀ (j:Nat) q,A[j]?=some q->∀ a,a ∈ q->a.stays) (aM:Hid (∀ bA,Below w.heap.size w bA->Calls Tryz.prog 7 #[.slice ao n c] bA λe w'=>∃ ad u T S,e=.returned (.tuple #[.pointer (some ⟨ad,0,none⟩),.int .i64 0,.int .i64 0])/\UiB w U ad u n w' T S)) : Calls Tryz.prog 4 #[.slice ao n c,.slice bq v bU] w λe w'=>e=.returned (.bool true)/\Below U w w':=by
 have bt:=Qa (Qer w);have bu:=Qa bs;have bV:=Qa br;have bv:=Qa ba;have bw:=Qa b9;have ap:=Qa aj;have ci:maxLen=9223372036854775807:=rfl;clear bs br ba b9 aj;go_enter Tryz.func4,Tryz.ntmps4;go_wp2_with (first|(go_at_call 6;refine bt.out.mono ?_;rintro e w1 ⟨rfl,bg⟩;have bh:=Qa bg;clear bg bt));go_loopw [6] (λi wr=>wr=w1/\∃ j:Nat,j<=n/\i=.int .i64 j) (λi _=>n+1-(intOf i).toNat);·exact ⟨rfl,0,Nat.zero_le _,rfl⟩
 case round =>
  obtain ⟨rfl,j,bW,rfl⟩:=hrel;by_cases bi:j<n
  ·have cj:(j:Int)<(n:Int):=by omega
   have ck:IntKind.i64.wrap ((j:Int)+1)=(j:Int)+1:=by rw [IntKind.wrap_i64];omega
   have bD:j<A.length:=by rw [<- bV.out];exact bi
   obtain ⟨q,aJ⟩:∃ q,A[j]?=some q:=⟨_,getElem?_eq_getElem bD⟩;have aN:=bw.out j q aJ;obtain ⟨g,p,cw,cx,bX,_,bY,_,bb⟩:=(bu.out.keep λb hb=>bh.out.block b (by omega)) j q aJ;have ae:=Qa bb;have bZ:=Qa (bv.out j q aJ);obtain ⟨af,aO⟩:∃ af,af=q.length:=⟨_,rfl⟩;rw [<- aO] at bY aN;have bE:=Qa aO;subst bX;clear bb aO aJ aM ap;go_wp2;go_loopw [7] (λi w2=>w2=wr/\∃ G:Nat,G<=af/\i=.int .i64 G) (λi _=>af+1-(intOf i).toNat);·exact ⟨rfl,0,Nat.zero_le _,rfl⟩
   case round =>
    obtain ⟨rfl,G,cl,rfl⟩:=hrel;by_cases bF:G<af
    ·have cm:(G:Int)<(af:Int):=by omega
     have cn:IntKind.i64.wrap ((G:Int)+1)=(G:Int)+1:=by rw [IntKind.wrap_i64];omega
     obtain ⟨a,aW⟩:∃ a,q[G]?=some a:=⟨_,getElem?_eq_getElem (by rw [<- bE.out];exact bF)⟩;obtain ⟨a0,cy,bG,_,bc⟩:=ae.out G a aW;have c0:=bc 0 _ rfl;simp only [Nat.add_zero] at c0;have aj:=bZ.out a (mem_of_getElem? aW);have cz:(a.kd==2)=false:=by simpa using aj.1
     have cA:(a.kd==6)=false:=by simpa using aj.2
     subst bG;generalize a.kd=cB at *;clear bc aj aW;go_wp2;go_roundw;·exact ⟨trivial,G+1,by omega,by go_num⟩
     simp [intOf];omega
    have bH:G=af:=by omega
    subst bH;go_wp2;go_roundw;·exact ⟨trivial,j+1,by omega,by go_num⟩
    simp [intOf];omega
  have bI:j=n:=by omega
  subst bI;have bj:=Qa (aM.out wr bh.out);clear aM bu bv bw bW bi;go_wp2_with (first|(go_at_call 7;refine bj.out.mono ?_;rintro e w2 ⟨ad,u,T,S,rfl,y⟩;obtain ⟨r,H⟩:=y.doc;have I:=Qa y;have V:=Qa (y.tree H);have J:=Qa H;clear y H bj)|(go_at_call 12;refine V.out.mono ?_;rintro e bx ⟨a1,aK,z,rfl,a2,a3,aP⟩;have W:=Qa ((I.out.below aP).ids J.out);have X:=Qa a2;have a4:=Qa a3;have bk:=Qa aP;clear a2 a3 aP V)|(go_at_call 13;refine W.out.mono ?_;rintro e aX ⟨a5,aL,rfl,a6,M⟩;obtain ⟨B,bd⟩:=J.out.view a4.out;have Y:=Qa a6;have E:=Qa M;generalize Qv S.D.R S.D.R.length r=L at *;rw [B.len];have a7:=Qa B;clear a6 M B W a4));obtain ⟨h,aQ⟩:∃ h,h=z.length:=⟨_,rfl⟩;rw [<- aQ];have bl:Hid (Qgj w U ad u j aX T S a1 a5 h z L):=Qa ⟨(I.out.below bk.out).below E.out,X.out.out (QB.below E.out),Y.out,a7.out,aQ,by omega⟩;clear I X Y a7 aQ bd bk E J;go_loopw [11,12,13] (λc1 c2 i wr=>∃ m:Nat,i=.int .i64 m/\m<=v+100/\∃ T S a1 aK a5 aL h z L,c1=.slice a1 h aK/\c2=.slice a5 h aL/\Hid (Qgj w U ad u j wr T S a1 a5 h z L)) (λ_ _ i _=>v+101-(intOf i).toNat);·exact ⟨0,rfl,Nat.zero_le _,T,S,a1,aK,a5,aL,h,z,L,rfl,rfl,bl⟩
  case round =>
   clear bl;obtain ⟨m,rfl,cC,T,S,a1,aK,a5,aL,h,z,L,rfl,rfl,l⟩:=hrel;have cf:IntKind.i64.wrap ((v:Int)+100)=(v:Int)+100:=by rw [IntKind.wrap_i64];omega
   have co:IntKind.i64.wrap ((j:Int)+1)=(j:Int)+1:=by rw [IntKind.wrap_i64];omega
   have cp:IntKind.i64.wrap ((m:Int)+1)=(m:Int)+1:=by rw [IntKind.wrap_i64];omega
   by_cases cq:m<v+100
   ·have cg:(m:Int)<(v:Int)+100:=by omega
    have cr:((j:Int)+1==0)=false:=by simp;omega
    have bd:=l.out.few;have bB:(m<v) \/ (v<=m):=by omega
    rcases bB with bm|bm
    ·have bC:(m:Int)<(v:Int):=by omega
     obtain ⟨bz,c3,bJ,bn,bf,aR⟩:=ap.out m bm;have cs:=(World.cell?_of_block (a:=⟨bz,c3+m,none⟩) (l.out.b.keep.block bz bn)).trans bf;have aY:=Nat.le_of_lt_succ (QlX (ak m) (show 0<j+1 by omega));have bo:=Qa (QjY (ak m) (j+1) wr (by omega) (by omega) aR.1 aR.2);have aq:=Qa (l.out.b.step (QbV (ak m) (j+1)) aY);generalize QbV (ak m) (j+1)=t at *;generalize ak m=cD at *;subst bJ;clear ap bf aR bn;go_wp2_with (first|(go_at_call 8;refine bo.out.mono ?_;rintro e cE ⟨rfl,bp⟩;rw [bp];clear bp bo)|(go_at_call 9;refine aq.out.mono ?_;rintro e bx ⟨x,rfl,F,S',aB,y,ar⟩;obtain ⟨r,H⟩:=y.doc;have I:=Qa y;have ae:=Qa aB;have au:=Qa ar;have V:=Qa (y.tree H);have J:=Qa H;clear y aB ar H aq)|(go_at_call 12;refine V.out.mono ?_;rintro e aX ⟨aC,aZ,ag,rfl,a2,a3,M⟩;have W:=Qa ((I.out.below M).ids J.out);have X:=Qa a2;have a4:=Qa a3;have E:=Qa M;clear a2 a3 M V)|(go_at_call 13;refine W.out.mono ?_;rintro e C ⟨ah,aD,rfl,a6,av⟩;obtain ⟨B,al⟩:=J.out.view a4.out;have Y:=Qa a6;have N:=Qa av;generalize Qv S'.D.R S'.D.R.length r=ai at *;rw [B.len];have a7:=Qa B;obtain ⟨aw,ax⟩:=l.out.view.next B au.out;have a8:=Qa ax;rw [<- l.out.len] at aw;obtain ⟨nn,a9⟩:∃ nn,nn=ag.length:=⟨_,rfl⟩;rw [<- a9] at aw al ⊢;have ay:=Qa a9;have c4:decide ((nn:Int)<(h:Int))=false:=decide_eq_false (by omega);have bK:decide (nn<h)=false:=decide_eq_false (by omega);clear a6 av B ax a9 W a4));have aa:Hid (QB T F wr C):=Qa ((ae.out.trans (QB.below E.out)).trans (QB.below N.out));have O:Hid (Qdx F C a1 z/\Qde F C a5 L):=Qa ⟨l.out.nods.out aa.out,l.out.nums.out aa.out⟩;have f:Hid (Qgj w U ad u j C F S' aC ah nn ag ai):=Qa ⟨(I.out.below E.out).below N.out,X.out.out (QB.below N.out),Y.out,a7.out,ay.out,al⟩;have P:Hid (h=z.length/\L.length=z.length):=Qa ⟨l.out.len,l.out.view.len⟩;clear I ae aa au X Y a7 E N J l ay;go_loopw [17] (λi b0=>Hid (Below C.heap.size C b0)/\∃ k:Nat,k<=h/\i=.int .i64 k) (λi _=>h+1-(intOf i).toNat);·exact ⟨Qa (Below.refl _ _),0,Nat.zero_le _,rfl⟩
     case round =>
      obtain ⟨o,k,c5,rfl⟩:=hrel;have bL:IntKind.i64.wrap ((k:Int)+1)=(k:Int)+1:=by rw [IntKind.wrap_i64];omega
      by_cases bM:k<h
      ·have bN:(k:Int)<(h:Int):=by omega
       obtain ⟨K,ab⟩:∃ K,L[k]?=some K:=⟨_,getElem?_eq_getElem (by have:=P.out;omega)⟩;obtain ⟨s,ac⟩:∃ s,z[k]?=some s:=⟨_,getElem?_eq_getElem (by have:=P.out;omega)⟩;obtain ⟨q,b1,aE,a0,aF,aG,aH,aI⟩:=a8.out k K s ab ac;obtain ⟨c6,b2,_,_,c7⟩:=(O.out.2.out (QB.below o.out)) k K ab;obtain ⟨c8,b3,_,_,bO,bP,bQ⟩:=(O.out.1.out (QB.below o.out)) k s ac;obtain ⟨c9,b4,_,_,aS,aT,aU⟩:=(f.out.nods.out (QB.below o.out)) q b1 a0;rw [aH] at aS;rw [aF] at aT;rw [aG] at aU;have aN:q<nn:=by rw [f.out.len];exact (List.getElem?_eq_some_iff.1 a0).1
       have bR:(q:Int)<(nn:Int):=by omega
       have bS:decide ((q:Int)<0)=false:=decide_eq_false (by omega);have az:=Qa (QmJ ah nn aD ai K wr (f.out.len.trans f.out.view.len.symm) f.out.few (λk b8 b5=>by obtain ⟨g,b6,_,_,b7⟩:=(f.out.nums.out (QB.below o.out)) k b8 b5;exact ⟨g,b6,b7⟩) q aE aI);subst b2 b3 b4;generalize s.d=ca at *;generalize s.tag=cb at *;generalize s.key=cc at *;clear aE a0 aF aG aH aI ab ac a8 O f P;go_wp2_with (first|(go_at_call 14;refine az.out.mono ?_;rintro e cd ⟨rfl,aA⟩;rw [aA];clear aA az));go_big_quiet (fail);go_wp2;go_roundw;·exact ⟨Qa (QL o.out _),k+1,by omega,by go_num⟩
       simp [intOf];omega
      have aV:k=h:=by omega
      subst aV;clear a8 O P;go_wp2;go_roundw;·exact ⟨m+1,by go_num,by omega,F,S',aC,aZ,ah,aD,nn,ag,ai,rfl,rfl,Qa ⟨f.out.b.below o.out,f.out.nods.out (QB.below o.out),f.out.nums.out (QB.below o.out),f.out.view,f.out.len,f.out.few⟩⟩
      simp [intOf];omega
    have bC:¬ (m:Int)<(v:Int):=by omega
    have ct:(m:Int).tmod ((j:Int)+1)=((m % (j+1):Nat):Int):=by rw [Int.tmod_eq_emod_of_nonneg (by omega)];rfl
    have aY:m % (j+1)<=j:=Nat.le_of_lt_succ (Nat.mod_lt _ (by omega));have aq:=Qa (l.out.b.step (m % (j+1)) aY);generalize m % (j+1)=t at *;clear ap;go_wp2_with (first|(go_at_call 9;refine aq.out.mono ?_;rintro e bx ⟨x,rfl,F,S',aB,y,ar⟩;obtain ⟨r,H⟩:=y.doc;have I:=Qa y;have ae:=Qa aB;have au:=Qa ar;have V:=Qa (y.tree H);have J:=Qa H;clear y aB ar H aq)|(go_at_call 12;refine V.out.mono ?_;rintro e aX ⟨aC,aZ,ag,rfl,a2,a3,M⟩;have W:=Qa ((I.out.below M).ids J.out);have X:=Qa a2;have a4:=Qa a3;have E:=Qa M;clear a2 a3 M V)|(go_at_call 13;refine W.out.mono ?_;rintro e C ⟨ah,aD,rfl,a6,av⟩;obtain ⟨B,al⟩:=J.out.view a4.out;have Y:=Qa a6;have N:=Qa av;generalize Qv S'.D.R S'.D.R.length r=ai at *;rw [B.len];have a7:=Qa B;obtain ⟨aw,ax⟩:=l.out.view.next B au.out;have a8:=Qa ax;rw [<- l.out.len] at aw;obtain ⟨nn,a9⟩:∃ nn,nn=ag.length:=⟨_,rfl⟩;rw [<- a9] at aw al ⊢;have ay:=Qa a9;have c4:decide ((nn:Int)<(h:Int))=false:=decide_eq_false (by omega);have bK:decide (nn<h)=false:=decide_eq_false (by omega);clear a6 av B ax a9 W a4));have aa:Hid (QB T F wr C):=Qa ((ae.out.trans (QB.below E.out)).trans (QB.below N.out));have O:Hid (Qdx F C a1 z/\Qde F C a5 L):=Qa ⟨l.out.nods.out aa.out,l.out.nums.out aa.out⟩;have f:Hid (Qgj w U ad u j C F S' aC ah nn ag ai):=Qa ⟨(I.out.below E.out).below N.out,X.out.out (QB.below N.out),Y.out,a7.out,ay.out,al⟩;have P:Hid (h=z.length/\L.length=z.length):=Qa ⟨l.out.len,l.out.view.len⟩;clear I ae aa au X Y a7 E N J l ay;go_loopw [17] (λi b0=>Hid (Below C.heap.size C b0)/\∃ k:Nat,k<=h/\i=.int .i64 k) (λi _=>h+1-(intOf i).toNat);·exact ⟨Qa (Below.refl _ _),0,Nat.zero_le _,rfl⟩
    case round =>
     obtain ⟨o,k,c5,rfl⟩:=hrel;have bL:IntKind.i64.wrap ((k:Int)+1)=(k:Int)+1:=by rw [IntKind.wrap_i64];omega
     by_cases bM:k<h
     ·have bN:(k:Int)<(h:Int):=by omega
      obtain ⟨K,ab⟩:∃ K,L[k]?=some K:=⟨_,getElem?_eq_getElem (by have:=P.out;omega)⟩;obtain ⟨s,ac⟩:∃ s,z[k]?=some s:=⟨_,getElem?_eq_getElem (by have:=P.out;omega)⟩;obtain ⟨q,b1,aE,a0,aF,aG,aH,aI⟩:=a8.out k K s ab ac;obtain ⟨c6,b2,_,_,c7⟩:=(O.out.2.out (QB.below o.out)) k K ab;obtain ⟨c8,b3,_,_,bO,bP,bQ⟩:=(O.out.1.out (QB.below o.out)) k s ac;obtain ⟨c9,b4,_,_,aS,aT,aU⟩:=(f.out.nods.out (QB.below o.out)) q b1 a0;rw [aH] at aS;rw [aF] at aT;rw [aG] at aU;have aN:q<nn:=by rw [f.out.len];exact (List.getElem?_eq_some_iff.1 a0).1
      have bR:(q:Int)<(nn:Int):=by omega
      have bS:decide ((q:Int)<0)=false:=decide_eq_false (by omega);have az:=Qa (QmJ ah nn aD ai K wr (f.out.len.trans f.out.view.len.symm) f.out.few (λk b8 b5=>by obtain ⟨g,b6,_,_,b7⟩:=(f.out.nums.out (QB.below o.out)) k b8 b5;exact ⟨g,b6,b7⟩) q aE aI);subst b2 b3 b4;generalize s.d=ca at *;generalize s.tag=cb at *;generalize s.key=cc at *;clear aE a0 aF aG aH aI ab ac a8 O f P;go_wp2_with (first|(go_at_call 14;refine az.out.mono ?_;rintro e cd ⟨rfl,aA⟩;rw [aA];clear aA az));go_big_quiet (fail);go_wp2;go_roundw;·exact ⟨Qa (QL o.out _),k+1,by omega,by go_num⟩
      simp [intOf];omega
     have aV:k=h:=by omega
     subst aV;clear a8 O P;go_wp2;go_roundw;·exact ⟨m+1,by go_num,by omega,F,S',aC,aZ,ah,aD,nn,ag,ai,rfl,rfl,Qa ⟨f.out.b.below o.out,f.out.nods.out (QB.below o.out),f.out.nums.out (QB.below o.out),f.out.view,f.out.len,f.out.few⟩⟩
     simp [intOf];omega
   have bT:m=v+100:=by omega
   subst bT;clear ap;go_wp2;go_ret;exact ⟨rfl,l.out.b.keep⟩
end Go.Proofs.YtobgcaemnpkbmaaGreatDoor
