import Derived.Test.YtobgcaemnpkbmaaGreatDoorC17
import Derived.Lib.SliceRun
namespace Go.Proofs.YtobgcaemnpkbmaaGreatDoor
set_option maxRecDepth 100000
set_option maxHeartbeats 8000000
open Go.RowKit List
structure QK (WB:Nat) (pv pv':Value) (w w':World):Prop where
 touch:Qx (λb=>b=WB \/ some b=pv.ownBlock) w w'
 row:∀ b,pv'.ownBlock=some b->pv.ownBlock=some b \/ w.heap.size<=b
def Zh (WB:Nat) (pv:Value) (w:World) (b:Nat):Prop:=b<w.heap.size/\b≠WB/\pv.ownBlock≠some b
theorem QK.refl (WB:Nat) (pv:Value) (w:World):QK WB pv pv w w:=⟨⟨rfl,rfl,rfl,Nat.le_refl _,λ_ _ _=>rfl⟩,λ_ h=>.inl h⟩
theorem QK.of_below {WB:Nat} {pv:Value} {w w':World} (h:Xb w w'):QK WB pv pv w w':=⟨.of_below h,λ_ h=>.inl h⟩
theorem QK.trans {WB:Nat} {pv d f:Value} {w w1 w2:World} (h:QK WB pv d w w1) (k:QK WB d f w1 w2):QK WB pv f w w2:=by
 refine ⟨⟨k.touch.os.trans h.touch.os,k.touch.tape.trans h.touch.tape,k.touch.output.trans h.touch.output,Nat.le_trans h.touch.size k.touch.size,λb hb c=>?_⟩,λb e=>?_⟩
 ·refine (k.touch.block b (Nat.lt_of_lt_of_le hb h.touch.size) ?_).trans (h.touch.block b hb c);rintro (e|e)
  ·exact c (.inl e)
  rcases h.row b e.symm with a|a
  ·exact c (.inr a.symm)
  omega
 rcases k.row b e with a|a
 ·exact h.row b a
 exact .inr (Nat.le_trans h.touch.size a)
theorem Zh.tells {WB:Nat} {pv a:Value} {w w':World} {b:Nat} (h:Zh WB pv w b) (k:QK WB pv a w w'):Zh WB a w' b:=by
 refine ⟨Nat.lt_of_lt_of_le h.1 k.touch.size,h.2.1,λe=>?_⟩;rcases k.row b e with c|c
 ·exact h.2.2 c
 have:=h.1;omega
theorem Zh.block {WB:Nat} {pv a:Value} {w w':World} {b:Nat} (h:Zh WB pv w b) (k:QK WB pv a w w'):w'.heap[b]?=w.heap[b]? := k.touch.block b h.1 (by rintro (e|e);exact h.2.1 e;exact h.2.2 e.symm)
theorem Zh.cell {WB:Nat} {pv c:Value} {w w':World} {b a:Nat} (h:Zh WB pv w b) (k:QK WB pv c w w'):w'.cell? (Xa b a)=w.cell? (Xa b a):=World.cell?_of_block (h.block k)
structure QdC (WB:Nat) (pv:Value) (w:World) (ao:Option Addr) (n:Nat) (nm vl:Nat->ByteArray):Prop where
 at_:JW w ao n nm vl
 free:0<n->∀ b o,ao=some (Xa b o)->Zh WB pv w b
theorem QdC.tells {WB:Nat} {pv d:Value} {w w':World} {ao:Option Addr} {n:Nat} {nm vl:Nat->ByteArray} (h:QdC WB pv w ao n nm vl) (k:QK WB pv d w w'):QdC WB d w' ao n nm vl:=by refine ⟨λj f=>?_,λg b a e=>(h.free g b a e).tells k⟩;obtain ⟨b,a,e,hb,i,l,m,o⟩:=h.at_ j f;have c:=h.free (by omega) b a e;exact ⟨b,a,e,(c.tells k).1,(c.cell k).trans i,(c.cell k).trans l,m,o⟩
theorem Q3.below {a:Nat} {w w':World} {WB:Nat} {pv:Value} {P:List Qn} {last:Int} (h:Q3 a w WB pv P last) (hb:Xb w w'):Q3 a w' WB pv P last := ⟨(Xh hb WB 0 h.lt).trans h.c0,(Xj hb WB 0 h.lt).trans h.f0,(Xh hb WB 1 h.lt).trans h.c1,(Xj hb WB 1 h.lt).trans h.f1,Zi h.row hb,h.apart,Nat.lt_of_lt_of_le h.lt hb.size⟩
theorem QcN (f WB:Nat) (pv:Value) (P:List Qn) (last:Int) (w:World) (h:Q3 f w WB pv P last) (s:f<=w.heap.size) (j:P.length<=1000000) (b id pa bf c:Int) (tg nm a:ByteArray) (o:tg.size<=1000000) (p:nm.size<=1000000) (q:a.size<=1000000) : Xl 97 #[Xp WB,Xe w.heap.size 1 1] (w.alloc (.cells #[Xi b,Xi id,Xi pa,Xi bf,Xi c,.string tg,.string nm,.string a] 60)).drew λe w'=>e=.returned (.tuple #[])/\∃ d,Q3 f w' WB d (P++[⟨b,id,pa,bf,c,tg,nm,a⟩]) last/\QK WB pv d w w':=by
 have k:=Z9 w #[Xi b,Xi id,Xi pa,Xi bf,Xi c,.string tg,.string nm,.string a] 60 _ rfl;have hb:Xb w (w.alloc (.cells #[Xi b,Xi id,Xi pa,Xi bf,Xi c,.string tg,.string nm,.string a] 60)).drew:=Xd.drew;have i:w.heap.size<(w.alloc (.cells #[Xi b,Xi id,Xi pa,Xi bf,Xi c,.string tg,.string nm,.string a] 60)).drew.heap.size:=by show _<(w.heap.push _).size;simp
 refine (Qjr f WB pv P last _ (h.below hb) (by omega) j ⟨b,id,pa,bf,c,tg,nm,a⟩ (by show tg.size<=_;omega) (by show nm.size<=_;omega) (by show a.size<=_;omega) w.heap.size 0 1 i ?_).mono ?_
 ·intro r g
  have:∀ r,r<8->(#[Xi b,Xi id,Xi pa,Xi bf,Xi c,.string tg,.string nm,.string a]:Array Value).toList[r]?=some (QaX ⟨b,id,pa,bf,c,tg,nm,a⟩ r):=by
   intro r g
   match r,g with
   | 0,_=>rfl
   | 1,_=>rfl
   | 2,_=>rfl
   | 3,_=>rfl
   | 4,_=>rfl
   | 5,_=>rfl
   | 6,_=>rfl
   | 7,_=>rfl
  have:=k r _ (this r g);rw [ZS] at this;exact this
 rintro e w' ⟨rfl,d,l,m,n⟩;exact ⟨rfl,d,l,(QK.of_below hb).trans ⟨n,m⟩⟩
def Qas (id:Int) (nm a:Nat->ByteArray) (b:Nat):Nat->List Qn
 | 0=>[]
 | k+1=>Qas id nm a b k++bif Jy a (nm k) b then [] else [⟨5,id,0,0,0,⟨#[]⟩,nm k,⟨#[]⟩⟩]
def QaO (id:Int) (nm vl:Nat->ByteArray) (n:Nat) (a b:Nat->ByteArray):Nat->List Qn
 | 0=>[]
 | k+1=>QaO id nm vl n a b k++bif J2 nm vl (a k) (b k) n then [] else [⟨4,id,0,0,0,⟨#[]⟩,a k,b k⟩]
theorem QhH {id:Int} {nm a:Nat->ByteArray} {b k:Nat} (h:Jy a (nm k) b=true):Qas id nm a b (k+1)=Qas id nm a b k:=by simp [Qas,h]
theorem Qhi {id:Int} {nm a:Nat->ByteArray} {b k:Nat} (h:Jy a (nm k) b=false):Qas id nm a b (k+1)=Qas id nm a b k++[⟨5,id,0,0,0,⟨#[]⟩,nm k,⟨#[]⟩⟩]:=by simp [Qas,h]
theorem QhB {id:Int} {nm vl a b:Nat->ByteArray} {n k:Nat} (h:J2 nm vl (a k) (b k) n=true):QaO id nm vl n a b (k+1)=QaO id nm vl n a b k:=by simp [QaO,h]
theorem QgO {id:Int} {nm vl a b:Nat->ByteArray} {n k:Nat} (h:J2 nm vl (a k) (b k) n=false):QaO id nm vl n a b (k+1)=QaO id nm vl n a b k++[⟨4,id,0,0,0,⟨#[]⟩,a k,b k⟩]:=by simp [QaO,h]
theorem QeK (id:Int) (nm a:Nat->ByteArray) (b:Nat):∀ k,(Qas id nm a b k).length<=k| 0=>Nat.le_refl _| k+1=>by have:=QeK id nm a b k;cases h:Jy a (nm k) b with| true=>rw [QhH h];omega| false=>rw [Qhi h,length_append];show _+1<=_;omega
theorem Qgu (id:Int) (nm vl:Nat->ByteArray) (n:Nat) (a b:Nat->ByteArray):∀ k,(QaO id nm vl n a b k).length<=k| 0=>Nat.le_refl _| k+1=>by have:=Qgu id nm vl n a b k;cases h:J2 nm vl (a k) (b k) n with| true=>rw [QhB h];omega| false=>rw [QgO h,length_append];show _+1<=_;omega
theorem Qqe (B WB:Nat) (pv:Value) (P:List Qn) (last:Int) (w:World) (h:Q3 B w WB pv P last) (a0:B<=w.heap.size) (az:P.length<=900000) (f:Nat) (id:Int) (G:Option Addr) (nn nc:Nat) (nm vl:Nat->ByteArray) (a9:Zh WB pv w f) (aa:w.cell? (Xa f 0)=some (Xi id)) (ak:w.cell? (Xa f 4)=some (.slice G nn nc)) (ab:QdC WB pv w G nn nm vl) (ax:nn<=5) (a6:∀ j,j<nn->(nm j).size<=1000000) (ao:Option Addr) (an ac:Nat) (a g:Nat->ByteArray) (ad:QdC WB pv w ao an a g) (ay:an<=5) (a7:∀ j,j<an->(a j).size<=1000000/\(g j).size<=1000000) : Xl 98 #[Xp WB,Xp f,.slice ao an ac] w λe w'=>e=.returned (.tuple #[])/\∃ E,Q3 B w' WB E (P++Qas id nm a an nn++QaO id nm vl nn a g an) last/\QK WB pv E w w':=by
 have av:=Qa h;have ae:=Qa ab;have af:=Qa ad;have N:=Qa a9;have aj:=Qa a6;have a8:=Qa a7;clear h ab ad a9 a6 a7;go_enter Tryz.func98,Tryz.ntmps98;go_wp2;go_loopw [7,15] (λ_ i wr=>∃ k:Nat,i=Xi (k:Int)/\k<=nn/\Hid (∃ E,Q3 B wr WB E (P++Qas id nm a an k) last/\QK WB pv E w wr)) (λ_ i _=>nn-(intOf i).toNat);·exact ⟨0,rfl,Nat.zero_le _,Qa ⟨pv,by simpa [Qas] using av.out,.refl ..⟩⟩
 case round =>
  obtain ⟨k,rfl,ag,H⟩:=hrel;by_cases t:k<nn
  ·obtain ⟨q,I,y⟩:=H.out;obtain ⟨b,aw,rfl,hb,al,ap,aq,ar⟩:=(ae.out.tells y).at_ k t;clear H;have C:=Qa I;have o:=Qa y;clear I y;go_wp2_with fail;generalize F:wr.alloc (.cells #[.string (nm k),.string (vl k)] 96)=m;have s:=Xt F;have u:m.cell? (Xa wr.heap.size 0)=some (.string (nm k)):=by have:=Z9 wr #[.string (nm k),.string (vl k)] 96 _ rfl 0 _ rfl;rw [<- F];exact this
   have v:wr.heap.size<m.heap.size:=World.block_lt_of_cell? _ _ u;have L:QK WB pv q w m:=o.out.trans (.of_below s);have r:=QrV ao an ac a g wr.heap.size (nm k) m (by omega) (af.out.tells L).at_ u v;clear F L;cases D:Jy a (nm k) an with
   | true =>
    rw [D] at r;refine r.mono ?_;rintro e c ⟨rfl,d⟩;have n:=Qa (s.trans (d.mono (Nat.le_of_lt v)));clear s d r;go_wp2_with fail;refine ⟨⟨k+1,rfl,t,Qa ⟨q,?_,o.out.trans (.of_below n.out)⟩⟩,?_⟩
    ·rw [QhH D];exact C.out.below n.out
    simp only [intOf];omega
   | false =>
    rw [D] at r;refine r.mono ?_;rintro e c ⟨rfl,d⟩;have n:=Qa (s.trans (d.mono (Nat.le_of_lt v)));have x:=(Xh d wr.heap.size 0 v).trans u;have A:Xc c f 0 (Xi id):=(N.out.cell (o.out.trans (.of_below n.out))).trans aa;have J:wr.heap.size<c.heap.size:=World.block_lt_of_cell? _ _ x;have R:=Qa (show B<=c.heap.size from Nat.le_trans (Nat.le_trans a0 o.out.touch.size) (Nat.le_of_lt J));clear s d r u;go_wp2_with fail;have l:(λw':World=>Xc w' f 0 (Xi id)/\Xc w' wr.heap.size 0 (.string (nm k))) c.drew:=⟨A,x⟩;refine Zm (S:=(λw':World=>w'.cell? (Xa f 0)=some (Xi id)/\w'.cell? (Xa wr.heap.size 0)=some (.string (nm k)))) (by kernel_rfl) ?_;iterate 8
     apply Q0 ?_ l ?_;rotate_left
     ·(intro w' hSw;(try obtain ⟨q0,T⟩:=hSw);simp only [Xq];go_simp;try (with_reducible rfl))
     simp only [Xq,Xr]
    refine Qq 8 ?_;simp only [Xq];go_simp;have d:Xb wr c:=n.out;have a1:=R.out;refine ⟨.inr ?_,?_⟩
    ·exact ((((Below.refl c.heap.size c).alloc (Nat.le_refl _) _).cell (p:=(Xa f 0)) (World.block_lt_of_cell? _ _ A))).trans A
    clear l d;refine Qq 9 ?_;simp only [Xq];go_simp;refine (QcN B WB q (P++Qas id nm a an k) last c (C.out.below n.out) (by have:=a1;omega) (by have:=QeK id nm a an k;rw [length_append];omega) 5 id 0 0 0 ⟨#[]⟩ (nm k) ⟨#[]⟩ (by decide) (aj.out k t) (by decide)).mono ?_;rintro e au ⟨rfl,W,M,z⟩;have a2:Zh WB q c f:=N.out.tells (o.out.trans (.of_below n.out));have U:Zh WB q c wr.heap.size:=⟨J,Nat.ne_of_gt C.out.lt,λe=>Nat.lt_irrefl _ (C.out.row.lt _ e).2⟩;refine ⟨.inr ⟨(a2.cell z).trans A,(U.cell z).trans x⟩,?_⟩;have X:=Qa M;have Y:=Qa (o.out.trans ((QK.of_below n.out).trans z));clear M z;refine Zk (by kernel_rfl) ?_ _;go_wp2_with fail;refine ⟨⟨k+1,rfl,t,Qa ⟨W,?_,Y.out⟩⟩,?_⟩
    ·rw [Qhi D,<- append_assoc];exact X.out
    simp only [intOf];omega
  have:nn=k:=by omega
  subst this;have ah:=H;clear H ag t;go_wp2;go_loopw [9,36] (λ_ i ai=>∃ k:Nat,i=Xi (k:Int)/\k<=an/\Hid (∃ E,Q3 B ai WB E (P++Qas id nm a an nn++QaO id nm vl nn a g k) last/\QK WB pv E w ai)) (λ_ i _=>an-(intOf i).toNat)
  ·obtain ⟨q,I,y⟩:=ah.out;exact ⟨0,rfl,Nat.zero_le _,Qa ⟨q,by simpa [QaO] using I,y⟩⟩
  case round =>
   clear ah;obtain ⟨k,rfl,ag,H⟩:=hrel;by_cases t:k<an
   ·obtain ⟨q,I,y⟩:=H.out;obtain ⟨b,aw,rfl,hb,al,ap,aq,ar⟩:=(af.out.tells y).at_ k t;clear H;have C:=Qa I;have o:=Qa y;have a3:Xc wr f 4 (.slice G nn nc):=(N.out.cell y).trans ak;clear I y;go_wp2_with fail;generalize F:wr.alloc (.cells #[.string (a k),.string (g k)] 96)=m;have s:=Xt F;have u:m.cell? (Xa wr.heap.size 0)=some (.string (a k)):=by have:=Z9 wr #[.string (a k),.string (g k)] 96 _ rfl 0 _ rfl;rw [<- F];exact this
    have O:m.cell? (Xa wr.heap.size 1)=some (.string (g k)):=by have:=Z9 wr #[.string (a k),.string (g k)] 96 _ rfl 1 _ rfl;rw [ZS] at this;rw [<- F];exact this
    have v:wr.heap.size<m.heap.size:=World.block_lt_of_cell? _ _ u;have K:=(Xh s f 4 (World.block_lt_of_cell? _ _ a3)).trans a3;have L:QK WB pv q w m.drew:=o.out.trans (.of_below s.drew);have r:=Quv G nn nc nm vl (a k) (g k) m.drew (by omega) (ae.out.tells L).at_;clear F L a3;have l:(λw':World=>Xc w' f 4 (.slice G nn nc)/\Xc w' wr.heap.size 0 (.string (a k))/\Xc w' wr.heap.size 1 (.string (g k))) m.drew:=⟨K,u,O⟩;refine Zm (S:=(λw':World=>w'.cell? (Xa f 4)=some (.slice G nn nc)/\w'.cell? (Xa wr.heap.size 0)=some (.string (a k))/\w'.cell? (Xa wr.heap.size 1)=some (.string (g k)))) (by kernel_rfl) ?_;iterate 5
     apply Q0 ?_ l ?_;rotate_left
     ·(intro w' hSw;(try obtain ⟨q0,T,a4⟩:=hSw);simp only [Xq];go_simp;try (with_reducible rfl))
     simp only [Xq,Xr]
    refine Qq 5 ?_;simp only [Xq];go_simp;cases D:J2 nm vl (a k) (g k) nn with
    | true =>
     rw [D] at r;refine r.mono ?_;rintro e c ⟨rfl,d⟩;have d:Xb m c:=(Below.refl m.heap.size m).drew.trans d;have A:=(Xh d wr.heap.size 0 v).trans u;have x:=(Xh d wr.heap.size 1 v).trans O;have a5:=(Xh d f 4 (World.block_lt_of_cell? _ _ K)).trans K;have J:wr.heap.size<c.heap.size:=World.block_lt_of_cell? _ _ x;have n:=Qa (s.trans (d.mono (Nat.le_of_lt v)));have R:=Qa (show B<=c.heap.size from Nat.le_trans (Nat.le_trans a0 o.out.touch.size) (Nat.le_of_lt J));clear l;have l:(λw':World=>Xc w' f 4 (.slice G nn nc)/\Xc w' wr.heap.size 0 (.string (a k))/\Xc w' wr.heap.size 1 (.string (g k))) c:=⟨a5,A,x⟩;refine ⟨.inr l,?_⟩;clear s d r u O K;try simp only [Xr]
     refine J0 6 ?_;apply JZ ?_ l ?_;rotate_left
     ·(intro w' hSw;(try obtain ⟨q0,T,a4⟩:=hSw);simp only [Xq];go_simp;try (with_reducible rfl))
     simp only [Xq,Xr];refine Zk (by kernel_rfl) ?_ _;clear l;go_wp2_with fail;refine ⟨⟨k+1,rfl,t,Qa ⟨q,?_,o.out.trans (.of_below n.out)⟩⟩,?_⟩
     ·rw [QhB D];exact C.out.below n.out
     simp only [intOf];omega
    | false =>
     rw [D] at r;refine r.mono ?_;rintro e c ⟨rfl,d⟩;have d:Xb m c:=(Below.refl m.heap.size m).drew.trans d;have A:=(Xh d wr.heap.size 0 v).trans u;have x:=(Xh d wr.heap.size 1 v).trans O;have a5:=(Xh d f 4 (World.block_lt_of_cell? _ _ K)).trans K;have J:wr.heap.size<c.heap.size:=World.block_lt_of_cell? _ _ x;have n:=Qa (s.trans (d.mono (Nat.le_of_lt v)));have R:=Qa (show B<=c.heap.size from Nat.le_trans (Nat.le_trans a0 o.out.touch.size) (Nat.le_of_lt J));clear l;have l:(λw':World=>Xc w' f 4 (.slice G nn nc)/\Xc w' wr.heap.size 0 (.string (a k))/\Xc w' wr.heap.size 1 (.string (g k))) c:=⟨a5,A,x⟩;refine ⟨.inr l,?_⟩;clear s d r u O K;try simp only [Xr]
     refine J0 6 ?_;apply JZ ?_ l ?_;rotate_left
     ·(intro w' hSw;(try obtain ⟨q0,T,a4⟩:=hSw);simp only [Xq];go_simp;try (with_reducible rfl))
     simp only [Xq,Xr];refine Zk (by kernel_rfl) ?_ _;clear l;have V:Xc c f 0 (Xi id):=(N.out.cell (o.out.trans (.of_below n.out))).trans aa;go_wp2_with fail;have l:(λw':World=>Xc w' f 0 (Xi id)/\Xc w' wr.heap.size 0 (.string (a k))/\Xc w' wr.heap.size 1 (.string (g k))) c.drew:=⟨V,A,x⟩;refine Zm (S:=(λw':World=>w'.cell? (Xa f 0)=some (Xi id)/\w'.cell? (Xa wr.heap.size 0)=some (.string (a k))/\w'.cell? (Xa wr.heap.size 1)=some (.string (g k)))) (by kernel_rfl) ?_;iterate 10
      apply Q0 ?_ l ?_;rotate_left
      ·(intro w' hSw;(try obtain ⟨q0,T,a4⟩:=hSw);simp only [Xq];go_simp;try (with_reducible rfl))
      simp only [Xq,Xr]
     refine Qq 10 ?_;simp only [Xq];go_simp;have a1:=R.out;refine ⟨.inr ?_,?_⟩
     ·exact ((((Below.refl c.heap.size c).alloc (Nat.le_refl _) _).cell (p:=(Xa f 0)) (World.block_lt_of_cell? _ _ V))).trans V
     clear l;refine Qq 11 ?_;simp only [Xq];go_simp;refine (QcN B WB q (P++Qas id nm a an nn++QaO id nm vl nn a g k) last c (C.out.below n.out) a1 (by have:=QeK id nm a an nn;have:=Qgu id nm vl nn a g k;rw [length_append,length_append];omega) 4 id 0 0 0 ⟨#[]⟩ (a k) (g k) (by decide) (a8.out k t).1 (a8.out k t).2).mono ?_;rintro e au ⟨rfl,W,M,z⟩;have a2:Zh WB q c f:=N.out.tells (o.out.trans (.of_below n.out));have U:Zh WB q c wr.heap.size:=⟨J,Nat.ne_of_gt C.out.lt,λe=>Nat.lt_irrefl _ (C.out.row.lt _ e).2⟩;refine ⟨.inr ⟨(a2.cell z).trans V,(U.cell z).trans A,(U.cell z).trans x⟩,?_⟩;have X:=Qa M;have Y:=Qa (o.out.trans ((QK.of_below n.out).trans z));clear M z;refine Zk (by kernel_rfl) ?_ _;go_wp2_with fail;refine ⟨⟨k+1,rfl,t,Qa ⟨W,?_,Y.out⟩⟩,?_⟩
     ·rw [QgO D,<- append_assoc];exact X.out
     simp only [intOf];omega
   have:an=k:=by omega
   subst this;go_wp2;refine bodyPost_end (results_none rfl _ _ _) rfl ?_;exact ⟨rfl,H.out⟩
theorem Qgx (x:Int) (w:World):Xl 138 #[Xi x] w λe w'=>e=.returned (.bool (x==-1))/\w'=w:=by go_enter Tryz.func138,Tryz.ntmps138;go_wp2;go_ret;exact ⟨rfl,rfl⟩
theorem QdD {w:World} {a n c:Nat} {ao:Option Addr} {l:List Int} (h:w.ownsRow a 3 1 (.slice ao n c) n (Qt l)) {j:Nat} (i:j<n):∃ g,∃ b:j<l.length,ao=some (Xa g 0)/\w.cell? (Xa g j)=some (Xi l[j])/\a<=g/\g<w.heap.size:=by
 have b:l.length=n:=by have:=h.1;rw [Qap] at this;omega
 rcases h.2 with ⟨e,k⟩|⟨g,cap,f,e,hb,d,_⟩
 ·omega
 simp at e;obtain ⟨rfl,rfl⟩:=e;refine ⟨g,by omega,rfl,?_,hb,(Array.getElem?_eq_some_iff.1 d).1⟩;rw [h.cellAt j (by omega)];unfold Qt;rw [getElem?_map,getElem?_eq_getElem (by omega)];rfl
def QaY (p:Int->Bool) (l:List Int):Int:=match l.findIdx? p with|some k=>(k:Int)|none=>-1
theorem Qjq {p:Int->Bool} {l:List Int} {k:Nat} (c:k<l.length) (h:p l[k]=true) (b:∀ j,(a:j<l.length)->j<k->p l[j]=false):QaY p l=k:=by
 unfold QaY;have:l.findIdx? p=some k:=by rw [findIdx?_eq_some_iff_getElem];exact ⟨c,h,λj a=>by simpa using b j (by omega) a⟩
 rw [this]
theorem QlT {p:Int->Bool} {l:List Int} (b:∀ j,(a:j<l.length)->p l[j]=false):QaY p l=-1:=by
 unfold QaY;have:l.findIdx? p=none:=by rw [findIdx?_eq_none_iff];intro x c;obtain ⟨j,a,rfl⟩:=getElem_of_mem c;exact b j a
 rw [this]
theorem Qtx (s:Nat) (ao:Option Addr) (n c:Nat) (l:List Int) (x:Int) (w:World) (h:w.ownsRow s 3 1 (.slice ao n c) n (Qt l)) (v:n<=1000000) : Xl 190 #[.slice ao n c,Xi x] w λe w'=>e=.returned (Xi (QaY (λb=>x==b) l))/\w'=w:=by
 have u:=Qa h;have y:l.length=n:=by have:=h.1;rw [Qap] at this;omega
 clear h;go_enter Tryz.func190,Tryz.ntmps190;go_wp2;go_loopw [5,8] (λ_ i wr=>∃ j:Nat,j<=n/\i=Xi j/\wr=w/\Hid (∀ t,(a:t<l.length)->t<j->(x==l[t])=false)) (λ_ i _=>n-(intOf i).toNat);·exact ⟨0,Nat.zero_le _,rfl,rfl,Qa λt _ h=>absurd h (Nat.not_lt_zero _)⟩
 case round =>
  obtain ⟨j,z,rfl,rfl,d⟩:=hrel;by_cases k:j<n
  ·obtain ⟨g,m,rfl,A,_,_⟩:=QdD u.out k;have o:(j:Int)<(n:Int):=by omega
   by_cases e:(x==l[j])=true
   ·have f:=Qa (Qjq (p:=λb=>x==b) m e (λt a h=>d.out t a h));go_wp2;go_ret;exact ⟨by rw [f.out];rfl,rfl⟩
   have e:(x==l[j])=false:=by simpa using e
   have q:Hid (∀ t,(a:t<l.length)->t<j+1->(x==l[t])=false):=Qa λt a h=>by
    by_cases r:t=j
    ·subst r;exact e
    exact d.out t a (by omega)
   go_wp2;go_roundw;·exact ⟨j+1,by omega,by go_num,by trivial,q⟩
   simp [intOf];omega
  have o:¬ (j:Int)<(n:Int):=by omega
  have f:=Qa (QlT (p:=λb=>x==b) (l:=l) (λt a=>d.out t a (by omega)));go_wp2;go_ret;exact ⟨by rw [f.out];rfl,rfl⟩
theorem QoS (x:Int) (l:List Int):decide (0<=QaY (λb=>x==b) l)=l.contains x:=by
 unfold QaY;cases h:l.findIdx? (λb=>x==b) with
 | none =>
  rw [findIdx?_eq_none_iff] at h;have:l.contains x=false:=by
   cases c:l.contains x with
   | false=>rfl
   | true =>
    have a:x ∈ l:=by simpa using c
    have:=h x a;simp at this
  rw [this];rfl
 | some k =>
  rw [findIdx?_eq_some_iff_getElem] at h;obtain ⟨d,e,_⟩:=h;have a:x ∈ l:=by
   have e:x=l[k]:=by simpa using e
   rw [e];exact getElem_mem d
  have:l.contains x=true:=by simpa using a
  rw [this];simp
theorem QtG (a:Nat) (ao:Option Addr) (n c:Nat) (l:List Int) (x:Int) (w:World) (h:w.ownsRow a 3 1 (.slice ao n c) n (Qt l)) (b:n<=1000000) : Xl 171 #[.slice ao n c,Xi x] w λe w'=>e=.returned (.bool (l.contains x))/\w'=w:=by have d:=Qa (Qtx a ao n c l x w h b);have f:=Qa (QoS x l);clear h;generalize QaY (λg=>x==g) l=r at *;go_enter Tryz.func171,Tryz.ntmps171;go_wp2_with (first|(go_at_call 190;refine (Qb d).mono ?_;rintro e w1 ⟨rfl,rfl⟩));go_ret;refine ⟨?_,rfl⟩;rw [<- f.out];simp
def JQ (x:Int):Bool:=x==-1
theorem QoF (s:Nat) (ao:Option Addr) (n c:Nat) (l:List Int) (w:World) (h:w.ownsRow s 3 1 (.slice ao n c) n (Qt l)) (v:n<=1000000) : Xl 173 #[.slice ao n c,.func (.func 138) #[] #[]] w λe w'=>e=.returned (Xi (QaY JQ l))/\w'=w:=by
 have u:=Qa h;have x:l.length=n:=by have:=h.1;rw [Qap] at this;omega
 clear h;go_enter Tryz.func173,Tryz.ntmps173;go_wp2;go_loopw [5,8] (λ_ i wr=>∃ j:Nat,j<=n/\i=Xi j/\wr=w/\Hid (∀ t,(a:t<l.length)->t<j->JQ l[t]=false)) (λ_ i _=>n-(intOf i).toNat);·exact ⟨0,Nat.zero_le _,rfl,rfl,Qa λt _ h=>absurd h (Nat.not_lt_zero _)⟩
 case round =>
  obtain ⟨j,y,rfl,rfl,d⟩:=hrel;by_cases k:j<n
  ·obtain ⟨g,m,rfl,z,_,_⟩:=QdD u.out k;have o:(j:Int)<(n:Int):=by omega
   have b:=Qa (Qgx l[j] wr);by_cases e:JQ l[j]=true
   ·have f:=Qa (Qjq (p:=JQ) m e (λt a h=>d.out t a h));have e':(l[j]==-1)=true:=e;rw [e'] at b;go_wp2_with (first|(go_at_call 138;refine (Qb b).mono ?_;rintro e w1 ⟨rfl,rfl⟩));go_ret;exact ⟨by rw [f.out];rfl,rfl⟩
   have e:JQ l[j]=false:=by simpa using e
   have q:Hid (∀ t,(a:t<l.length)->t<j+1->JQ l[t]=false):=Qa λt a h=>by
    by_cases r:t=j
    ·subst r;exact e
    exact d.out t a (by omega)
   have e':(l[j]==-1)=false:=e;rw [e'] at b;go_wp2_with (first|(go_at_call 138;refine (Qb b).mono ?_;rintro e w1 ⟨rfl,rfl⟩));go_roundw;·exact ⟨j+1,by omega,by go_num,by trivial,q⟩
   simp [intOf];omega
  have o:¬ (j:Int)<(n:Int):=by omega
  have f:=Qa (QlT (p:=JQ) (l:=l) (λt a=>d.out t a (by omega)));go_wp2;go_ret;exact ⟨by rw [f.out];rfl,rfl⟩
theorem Qrp (f WB:Nat) (pv:Value) (P:List Qn) (last:Int) (w:World) (h:Q3 f w WB pv P last) (s:f<=w.heap.size) (j:P.length<=1000000) (b id pa bf c:Int) (tg nm a:ByteArray) (o:tg.size<=1000000) (p:nm.size<=1000000) (q:a.size<=1000000) : Xl 97 #[Xp WB,Xe w.heap.size 1 1] (w.alloc (.cells #[Xi b,Xi id,Xi pa,Xi bf,Xi c,.string tg,.string nm,.string a] 60)) λe w'=>e=.returned (.tuple #[])/\∃ d,Q3 f w' WB d (P++[⟨b,id,pa,bf,c,tg,nm,a⟩]) last/\QK WB pv d w w':=by
 have k:=Z9 w #[Xi b,Xi id,Xi pa,Xi bf,Xi c,.string tg,.string nm,.string a] 60 _ rfl;have hb:Xb w (w.alloc (.cells #[Xi b,Xi id,Xi pa,Xi bf,Xi c,.string tg,.string nm,.string a] 60)):=Xd;have i:w.heap.size<(w.alloc (.cells #[Xi b,Xi id,Xi pa,Xi bf,Xi c,.string tg,.string nm,.string a] 60)).heap.size:=by show _<(w.heap.push _).size;simp
 refine (Qjr f WB pv P last _ (h.below hb) (by omega) j ⟨b,id,pa,bf,c,tg,nm,a⟩ (by show tg.size<=_;omega) (by show nm.size<=_;omega) (by show a.size<=_;omega) w.heap.size 0 1 i ?_).mono ?_
 ·intro r g
  have:∀ r,r<8->(#[Xi b,Xi id,Xi pa,Xi bf,Xi c,.string tg,.string nm,.string a]:Array Value).toList[r]?=some (QaX ⟨b,id,pa,bf,c,tg,nm,a⟩ r):=by
   intro r g
   match r,g with
   | 0,_=>rfl
   | 1,_=>rfl
   | 2,_=>rfl
   | 3,_=>rfl
   | 4,_=>rfl
   | 5,_=>rfl
   | 6,_=>rfl
   | 7,_=>rfl
  have:=k r _ (this r g);rw [ZS] at this;exact this
 rintro e w' ⟨rfl,d,l,m,n⟩;exact ⟨rfl,d,l,(QK.of_below hb).trans ⟨n,m⟩⟩
structure QcH (WB:Nat) (pv:Value) (w:World) (C:Nat) (v:Value) (n:Nat) (l:List Int):Prop where
 row:w.ownsRow C 3 1 v n (Qt l)
 free:∀ b,v.ownBlock=some b->Zh WB pv w b
theorem QcH.tells {WB:Nat} {pv a:Value} {w w':World} {C:Nat} {v:Value} {n:Nat} {l:List Int} (h:QcH WB pv w C v n l) (k:QK WB pv a w w'):QcH WB a w' C v n l := ⟨QT h.row λb e=>(h.free b e).block k,λb e=>(h.free b e).tells k⟩
def Qeo (WB:Nat) (pv:Value) (w:World) (a:Option Addr) (n:Nat) (b:Nat->Int):Prop :=
 ∀ j,j<n->∃ g P,a=some (Xa g 0)/\Zh WB pv w g/\Zh WB pv w P/\w.cell? (Xa g j)=some (Xp P)/\w.cell? (Xa P 0)=some (Xi (b j))
theorem Qeo.tells {WB:Nat} {pv a:Value} {w w':World} {b:Option Addr} {n:Nat} {f:Nat->Int} (h:Qeo WB pv w b n f) (k:QK WB pv a w w'):Qeo WB a w' b n f:=by intro j i;obtain ⟨g,P,e,c,d,l,m⟩:=h j i;exact ⟨g,P,e,c.tells k,d.tells k,(c.cell k).trans l,(d.cell k).trans m⟩
def ZY (a:Nat->Int) (l:List Int):Nat->List Qn
 | 0=>[]
 | k+1=>ZY a l k++bif l.contains (k:Int) then [] else [⟨3,a k,0,0,0,⟨#[]⟩,⟨#[]⟩,⟨#[]⟩⟩]
theorem QhJ {a:Nat->Int} {l:List Int} {k:Nat} (h:l.contains (k:Int)=true):ZY a l (k+1)=ZY a l k:=by simp only [ZY,h,cond_true,append_nil]
theorem Qhb {a:Nat->Int} {l:List Int} {k:Nat} (h:l.contains (k:Int)=false):ZY a l (k+1)=ZY a l k++[⟨3,a k,0,0,0,⟨#[]⟩,⟨#[]⟩,⟨#[]⟩⟩]:=by simp only [ZY,h,cond_false]
theorem Qf7 (a:Nat->Int) (l:List Int):∀ k,(ZY a l k).length<=k| 0=>Nat.le_refl _| k+1=>by have:=Qf7 a l k;cases h:l.contains (k:Int) with| true=>rw [QhJ h];omega| false=>rw [Qhb h,length_append];show _+1<=_;omega
theorem QuI (d WB:Nat) (pv:Value) (P:List Qn) (last:Int) (w:World) (h:Q3 d w WB pv P last) (M:d<=w.heap.size) (V:P.length<=900000) (t:Nat) (A:Option Addr) (n N:Nat) (a:Nat->Int) (B:Zh WB pv w t) (W:w.cell? (Xa t 6)=some (.slice A n N)) (E:Qeo WB pv w A n a) (X:n<=1000) (C:Nat) (q:Option Addr) (m r:Nat) (l:List Int) (c:QcH WB pv w C (.slice q m r) m l) (Y:m<=1000) : Xl 134 #[Xp WB,Xp t,.slice q m r] w λe w'=>e=.returned (.tuple #[])/\∃ b,Q3 d w' WB b (P++ZY a l n) last/\QK WB pv b w w':=by
 have U:=Qa h;have O:=Qa E;have a0:=Qa B;have R:=Qa c;clear h E B c;go_enter Tryz.func134,Tryz.ntmps134;go_wp2;go_loopw [6,7,13] (λ_ _ i wr=>∃ k:Nat,i=Xi (k:Int)/\k<=n/\Hid (∃ b,Q3 d wr WB b (P++ZY a l k) last/\QK WB pv b w wr)) (λ_ _ i _=>n-(intOf i).toNat);·exact ⟨0,rfl,Nat.zero_le _,Qa ⟨pv,by simpa [ZY] using U.out,.refl ..⟩⟩
 case round =>
  obtain ⟨k,rfl,a1,s⟩:=hrel;by_cases o:k<n
  ·obtain ⟨p,u,f⟩:=s.out;obtain ⟨g,D,rfl,F,G,a2,a3⟩:=(O.out.tells f) k o;have j:=QtG C q m r l (k:Int) wr (R.out.tells f).row (by omega);clear s;have v:=Qa u;have x:=Qa f;have S:d<=wr.heap.size:=Nat.le_trans M f.touch.size;have a4:=F.1;have a5:=G.1;clear u f F G;cases c:l.contains (k:Int) with
   | true =>
    rw [c] at j;go_wp2_with (first|(go_at_call 171;refine j.mono ?_;rintro e T ⟨rfl,rfl⟩));refine ⟨⟨k+1,rfl,o,Qa ⟨p,?_,x.out⟩⟩,?_⟩
    ·rw [QhJ c];exact v.out
    simp only [intOf];omega
   | false =>
    rw [c] at j;have H:∀ w1,w1=wr.alloc (.cells #[Xi 3,Xi (a k),Xi 0,Xi 0,Xi 0,Xo,Xo,Xo] 60)->Xl 97 #[Xp WB,Xe wr.heap.size 1 1] w1 λe w'=>e=.returned (.tuple #[])/\∃ b,Q3 d w' WB b (P++ZY a l k++[⟨3,a k,0,0,0,⟨#[]⟩,⟨#[]⟩,⟨#[]⟩⟩]) last/\QK WB p b wr w':=by rintro _ rfl;exact Qrp d WB p (P++ZY a l k) last wr v.out S (by have:=Qf7 a l k;rw [length_append];omega) 3 (a k) 0 0 0 ⟨#[]⟩ ⟨#[]⟩ ⟨#[]⟩ (by decide) (by decide) (by decide)
    have I:=Qa H;clear H;go_wp2_with (first|(go_at_call 171;refine j.mono ?_;rintro e T ⟨rfl,rfl⟩)|(go_at_call 97;refine (Qb I _ rfl).mono ?_;rintro e a6 ⟨rfl,J,y,z⟩;have K:=Qa y;have L:=Qa (x.out.trans z);clear y z));refine ⟨⟨k+1,rfl,o,Qa ⟨J,?_,L.out⟩⟩,?_⟩
    ·rw [Qhb c,<- append_assoc];exact K.out
    simp only [intOf];omega
  have:n=k:=by omega
  subst this;go_wp2;refine bodyPost_end (results_none rfl _ _ _) rfl ?_;exact ⟨rfl,s.out⟩
theorem Ql2 (WB a:Nat) (n f k:Nat) (g D:Nat) (p:k<n) (d h:Int) (tg i:ByteArray) (j:Value) (w:World) (l:Xc w a 6 (Xe g n f)) (m:Xc w g k (Xp D)) : Xl 139 #[Xp WB,Xp a,Xi (k:Int),.agg #[Xi d,.string tg,Xi h,j,.string i]] w λe w'=>e=.returned (Xp D)/\Xb w w':=by
 have b:((k:Int)==-1)=false:=beq_eq_false_iff_ne.2 (by omega);have c:∀ w1:World,Xl 138 #[Xi (k:Int)] w1 λe w'=>e=.returned (.bool false)/\w'=w1:=λw1=>by have:=Qgx (k:Int) w1;rw [b] at this;exact this
 have o:=Qa c;clear c b;have q:a<w.heap.size:=World.block_lt_of_cell? _ _ l;have r:g<w.heap.size:=World.block_lt_of_cell? _ _ m;go_enter Tryz.func139,Tryz.ntmps139;go_wp2_with (first|(go_at_call 138;refine (Qb o _).mono ?_;rintro e w1 ⟨rfl,rfl⟩));go_ret;exact ⟨rfl,Xd⟩
theorem Qjk (t WB:Nat) (pv:Value) (P:List Qn) (last:Int) (w:World) (h:Q3 t w WB pv P last) (ah:t<=w.heap.size) (ai:P.length<=900000) (af:0<=last) (ag:last<=4611686018427387904) (ae:Nat) (d c:Int) (tg a:ByteArray) (K:Value) (Y:tg.size<=1000000) (a0:a.size<=1000000) : Xl 139 #[Xp WB,Xp ae,Xi (-1),.agg #[Xi d,.string tg,Xi c,K,.string a]] w λe w'=>∃ D A,e=.returned (Xp D)/\w.heap.size<=D/\Zh WB A w' D/\w'.heap[D]?=some (.cells #[Xi (last+1),Xi c,.string tg,.string a,Xv,.pointer none,Xv] 148 (0,0))/\Q3 t w' WB A (P++[⟨1,last+1,0,0,c,tg,⟨#[]⟩,a⟩]) (last+1)/\QK WB pv A w w':=by
 have j:=Qa h;have O:∀ w1:World,Xl 138 #[Xi (-1)] w1 λe w'=>e=.returned (.bool true)/\w'=w1:=λw1=>Qgx (-1) w1;have a7:=Qa O;have R:=h.c1;have T:=h.f1;have U:=h.lt;clear h O;go_enter Tryz.func139,Tryz.ntmps139;go_wp2_with (first|(go_at_call 138;refine (Qb a7 _).mono ?_;rintro e w1 ⟨rfl,rfl⟩));have l:(w.setCell (Xa WB 1) (Xi (last+1))).heap.size=w.heap.size:=ZL _ _ _;have B:Q3 t (w.setCell (Xa WB 1) (Xi (last+1))) WB pv P (last+1) := ⟨(World.cell?_setCell_other _ _ _ _ (λe=>by cases e)).trans j.out.c0,(World.frozen?_setCell ..).trans j.out.f0,World.cell?_setCell_same _ _ _ R,(World.frozen?_setCell ..).trans T,Qk7 j.out.row (.inr λe=>j.out.apart _ e rfl),j.out.apart,by rw [l];exact U⟩;have C:QK WB pv pv w (w.setCell (Xa WB 1) (Xi (last+1))):=⟨⟨rfl,rfl,rfl,Nat.le_of_eq l.symm,λb _ a8=>Below.heap_setCell _ _ _ _ (λe=>a8 (.inl e))⟩,λ_ e=>.inl e⟩;generalize w.setCell (Xa WB 1) (Xi (last+1))=w1 at B C l ⊢;generalize E:w1.alloc (.cells #[Xi d,.string tg,Xi c,K,.string a] 47)=g;have F:=Xt E;have m:=QnN w1 #[Xi d,.string tg,Xi c,K,.string a] 47 w.heap.size l.symm _ rfl;rw [E] at m;have u:g.cell? (Xa w.heap.size 1)=some (.string tg):=by have:=m 1 _ rfl;rw [ZS] at this;exact this
 have L:g.cell? (Xa w.heap.size 2)=some (Xi c):=by have:=m 2 _ rfl;rw [ZS] at this;exact this
 have M:g.cell? (Xa w.heap.size 4)=some (.string a):=by have:=m 4 _ rfl;rw [ZS] at this;exact this
 have G:=B.below F;have N:=C.trans (.of_below F);have a9:w.heap.size<g.heap.size:=World.block_lt_of_cell? _ _ u;have V:Zh WB pv g w.heap.size:=⟨a9,Nat.ne_of_gt U,λe=>Nat.lt_irrefl _ (j.out.row.lt _ e).2⟩;have v:=G.c1;have a1:=Qa G;have a2:=Qa N;have H:=Qa V;clear B C E F m G N V l R T j;have n:(λw':World=>Xc w' WB 1 (Xi (last+1))/\Xc w' w.heap.size 1 (.string tg)/\Xc w' w.heap.size 2 (Xi c)/\Xc w' w.heap.size 4 (.string a)) g.drew:=⟨v,u,L,M⟩;refine Zm (S:=(λw':World=>w'.cell? (Xa WB 1)=some (Xi (last+1))/\w'.cell? (Xa w.heap.size 1)=some (.string tg)/\w'.cell? (Xa w.heap.size 2)=some (Xi c)/\w'.cell? (Xa w.heap.size 4)=some (.string a))) (by kernel_rfl) ?_;iterate 12
  apply Q0 ?_ n ?_;rotate_left
  ·(intro w' hSw;(try obtain ⟨q0,aa,ab,ac⟩:=hSw);simp only [Xq];go_simp;try (with_reducible rfl))
  simp only [Xq,Xr]
 refine Qq 12 ?_;simp only [Xq];go_simp;refine ⟨.inr ?_,?_⟩
 ·exact ((((Below.refl g.heap.size g).alloc (Nat.le_refl _) _).cell (p:=(Xa WB 1)) (World.block_lt_of_cell? _ _ v))).trans v
 clear n;refine Qq 13 ?_;simp only [Xq];go_simp;refine (QcN t WB pv P (last+1) g a1.out (by omega) (by omega) 1 (last+1) 0 0 c tg ⟨#[]⟩ a Y (by decide) a0).mono ?_;rintro e f ⟨rfl,a3,I,o⟩;have r:=I.c1;have s:=(H.out.cell o).trans u;have x:=(H.out.cell o).trans L;have y:=(H.out.cell o).trans M;refine ⟨.inr ⟨r,s,x,y⟩,?_⟩;have z:w.heap.size<f.heap.size:=World.block_lt_of_cell? _ _ s;have J:=Qa I;have a4:=Qa (a2.out.trans o);clear I o v u L M;refine Zk (by kernel_rfl) ?_ _;go_wp2_with fail;have n:(λw':World=>Xc w' WB 1 (Xi (last+1))/\Xc w' w.heap.size 1 (.string tg)/\Xc w' w.heap.size 2 (Xi c)/\Xc w' w.heap.size 4 (.string a)) f.drew:=⟨r,s,x,y⟩;refine Zm (S:=(λw':World=>w'.cell? (Xa WB 1)=some (Xi (last+1))/\w'.cell? (Xa w.heap.size 1)=some (.string tg)/\w'.cell? (Xa w.heap.size 2)=some (Xi c)/\w'.cell? (Xa w.heap.size 4)=some (.string a))) (by kernel_rfl) ?_;iterate 11
  apply Q0 ?_ n ?_;rotate_left
  ·(intro w' hSw;(try obtain ⟨q0,aa,ab,ac⟩:=hSw);simp only [Xq];go_simp;try (with_reducible rfl))
  simp only [Xq,Xr]
 refine Qq 11 ?_;simp only [Xq];go_simp;have ad:∃ i,i=f.alloc (.cells #[Xi (last+1),Xi c,.string tg,.string a,Xv,.pointer none,Xv] 148):=⟨_,rfl⟩;obtain ⟨i,q⟩:=ad;rw [<- q];have k:Xb f i:=by rw [q];exact Xd
 have aj:i.heap.size=f.heap.size+1:=by rw [q];simp
 have W:i.heap[f.heap.size]?=some (.cells #[Xi (last+1),Xi c,.string tg,.string a,Xv,.pointer none,Xv] 148 (0,0)):=by rw [q];show (f.heap.push _)[f.heap.size]?=_;simp
 have u0:=(Xh k WB 1 (World.block_lt_of_cell? _ _ r)).trans r;have u1:=(Xh k w.heap.size 1 z).trans s;have u2:=(Xh k w.heap.size 2 z).trans x;have u4:=(Xh k w.heap.size 4 z).trans y;refine ⟨.inr u0,?_⟩;have a5:=Qa k;have a6:=Qa W;clear n q k W r s x y;refine Qq 12 ?_;simp only [Xq];go_simp;refine Zk (by kernel_rfl) ?_ _;go_wp2;go_ret;have X:Xb f i.drew:=a5.out.drew;refine ⟨f.heap.size,a3,rfl,Nat.le_of_lt z,⟨by show _<i.heap.size;omega,Nat.ne_of_gt J.out.lt,λe=>Nat.lt_irrefl _ (J.out.row.lt _ e).2⟩,a6.out,J.out.below X,a4.out.trans (.of_below X)⟩
def JS (D:Nat->Int) (n i:Nat):Bool:=(i==n)||(D i==D 0+1)
def Q5 (D:Nat->Int) (n:Nat):Nat->List (Nat × Nat) × Nat
 | 0=>([],1)
 | k+1=>bif JS D n (k+2) then ((Q5 D n k).1++[((Q5 D n k).2,k+2)],k+2) else Q5 D n k
def Jg (D:Nat->Int) (n:Nat):List (Nat × Nat):=(Q5 D n (n-1)).1
def QbO (b a c:Nat) (s:Nat × Nat):Value:=.slice (some (Xa b (a+s.1*5))) (s.2-s.1) (c-s.1)
def Qab (b a c:Nat) (l:List (Nat × Nat)):List Value:=l.map (QbO b a c)
theorem Qcz {D:Nat->Int} {n k:Nat} (h:JS D n (k+2)=true):Q5 D n (k+1)=((Q5 D n k).1++[((Q5 D n k).2,k+2)],k+2):=by simp only [Q5,h,cond_true]
theorem Qda {D:Nat->Int} {n k:Nat} (h:JS D n (k+2)=false):Q5 D n (k+1)=Q5 D n k:=by simp only [Q5,h,cond_false]
theorem Qdg (D:Nat->Int) (n:Nat):∀ k,1<=(Q5 D n k).2/\(Q5 D n k).2<=k+1| 0=>⟨Nat.le_refl _,Nat.le_refl _⟩| k+1=>by have:=Qdg D n k;cases h:JS D n (k+2) with| true=>rw [Qcz h];exact ⟨by show 1<=k+2;omega,Nat.le_refl _⟩| false=>rw [Qda h];omega
theorem Qhs (D:Nat->Int) (n:Nat):∀ k,(Q5 D n k).1.length<=k| 0=>Nat.le_refl _| k+1=>by have:=Qhs D n k;cases h:JS D n (k+2) with| true=>rw [Qcz h];show (List.append _ _).length<=_;rw [append_eq,length_append];show _+1<=_;omega| false=>rw [Qda h];omega
theorem QmW (b d n c:Nat) (D:Nat->Int) (w:World) (N:1<=n) (a8:n<=c) (a4:n<=100000) (hb:b<w.heap.size) (O:∀ i,i<n->w.cell? (Xa b (d+i*5))=some (Xi (D i))) (P:∀ i,i<n->0<=D i/\D i<=1000) : Xl 100 #[.slice (some (Xa b d)) n c] w λe w'=>∃ q,e=.returned q/\w'.ownsRow w.heap.size 41 1 q (Jg D n).length (Qab b d c (Jg D n))/\Xb w w':=by
 obtain ⟨R,S,J,K,L⟩:=info_parts Qfw;have t:=Qa O;have x:=Qa P;clear O P;go_enter Tryz.func100,Tryz.ntmps100;go_wp2;go_loopw [3,4,5] (λa0 s i wr=>∃ (j a:Nat) (q:Value) (l:List (Nat × Nat)),2<=j/\j<=n+1/\i=Xi (j:Int)/\s=Xi (a:Int)/\q=a0/\Hid (Q5 D n (j-2)=(l,a))/\Hid (wr.ownsRow w.heap.size 41 1 q l.length (Qab b d c l))/\Hid (Xb w wr)) (λ_ _ i _=>n+1-(intOf i).toNat);·exact ⟨2,1,_,[],Nat.le_refl _,by omega,rfl,rfl,rfl,Qa rfl,Qa (World.ownsRow_nil _ _ _ _),Qa (.refl _ _)⟩
 case round =>
  obtain ⟨j,a,q,l,a5,a9,rfl,rfl,rfl,k,m,h⟩:=hrel;by_cases a6:j<=n
  ·have z:1<=a/\a<j:=by have:=Qdg D n (j-2);rw [k.out] at this;exact ⟨this.1,by have:=this.2;omega⟩
   have a7:l.length<=n:=by have:=Qhs D n (j-2);rw [k.out] at this;have:l.length<=j-2:=this;omega
   have a2:=z.1;have a3:=z.2;clear z;have E:wr.cell? (Xa b d)=some (Xi (D 0)):=(Xh h.out b d hb).trans (by simpa using t.out 0 N);have A:=x.out 0 N;have aa:=A.1;have ab:=A.2;clear A;obtain ⟨T,U,rfl⟩:=Qz m.out;have X:=h.out.size;have M:b<wr.heap.size:=Nat.lt_of_lt_of_le hb X;by_cases F:j=n
   ·have a1:((j:Int)==(n:Int))=true:=by rw [F];simp
    have o:JS D n (j-2+2)=true:=by unfold JS;rw [show j-2+2=n by omega];simp
    have ac:=Qa F;clear F;go_wp2;go_big_quiet (fail);have f:=Qa (QT (w':=wr.drewN nq) m.out λ_ _=>rfl);have g:=Qa (QL h.out nq);have B:b<(wr.drewN nq).heap.size:=M;clear m h t x E;generalize wr.drewN nq=y at f g B ⊢;have C:=g.out.size;go_wp2_with ((at_builtin;refine Jf _ rfl (.tmp 29) (.tmp 34) 78 rfl w.heap.size 41 R Xv 1 24 Tryz.underlying78 S J K L rfl (.slice T l.length U) _ _ rfl (f.out.alloc _) (some (Xa y.heap.size 0)) 1 1 [QbO b d c (a,j)] rfl (by simp) rfl (Z9 _ _ _) (by simp [Value.oneCell',QbO]) (by omega) (by omega) (by simp;omega) ?_;intro u v p r _));have G:Hid (Q5 D n (j+1-2)=(l++[(a,j)],j)):=Qa (by rw [show j+1-2=j-2+1 by omega,Qcz o,k.out,show j-2+2=j by omega]);have H:Hid (v.ownsRow w.heap.size 41 1 u (l++[(a,j)]).length (Qab b d c (l++[(a,j)]))):=Qa (by rw [length_append,show Qab b d c (l++[(a,j)])=Qab b d c l++[QbO b d c (a,j)] by simp [Qab]];exact p.out);have I:Hid (Xb w v):=Qa ((g.out.alloc C _).grown r.out.by (by simp;omega) (λb e=>(f.out.lt b e).1));clear p r k;go_wp2_with fail;exact ⟨⟨j+1,j,u,l++[(a,j)],by omega,by omega,by go_num,rfl,rfl,G,H,I⟩,by simp only [intOf];omega⟩
   have a1:((j:Int)==(n:Int))=false:=by rw [beq_eq_false_iff_ne];omega
   have Y:j<n:=by omega
   have V:Xc wr b (d+j*5) (Xi (D j)):=(Xh h.out b (d+j*5) hb).trans (t.out j Y);cases W:(D j==D 0+1) with
   | true =>
    have o:JS D n (j-2+2)=true:=by unfold JS;rw [show j-2+2=j by omega,W];simp
    go_wp2;go_big_quiet (fail);have f:=Qa (QT (w':=wr.drewN nq) m.out λ_ _=>rfl);have g:=Qa (QL h.out nq);have B:b<(wr.drewN nq).heap.size:=M;clear m h t x E V;generalize wr.drewN nq=y at f g B ⊢;have C:=g.out.size;go_wp2_with ((at_builtin;refine Jf _ rfl (.tmp 29) (.tmp 34) 78 rfl w.heap.size 41 R Xv 1 24 Tryz.underlying78 S J K L rfl (.slice T l.length U) _ _ rfl (f.out.alloc _) (some (Xa y.heap.size 0)) 1 1 [QbO b d c (a,j)] rfl (by simp) rfl (Z9 _ _ _) (by simp [Value.oneCell',QbO]) (by omega) (by omega) (by simp;omega) ?_;intro u v p r _));have G:Hid (Q5 D n (j+1-2)=(l++[(a,j)],j)):=Qa (by rw [show j+1-2=j-2+1 by omega,Qcz o,k.out,show j-2+2=j by omega]);have H:Hid (v.ownsRow w.heap.size 41 1 u (l++[(a,j)]).length (Qab b d c (l++[(a,j)]))):=Qa (by rw [length_append,show Qab b d c (l++[(a,j)])=Qab b d c l++[QbO b d c (a,j)] by simp [Qab]];exact p.out);have I:Hid (Xb w v):=Qa ((g.out.alloc C _).grown r.out.by (by simp;omega) (λb e=>(f.out.lt b e).1));clear p r k;go_wp2_with fail;exact ⟨⟨j+1,j,u,l++[(a,j)],by omega,by omega,by go_num,rfl,rfl,G,H,I⟩,by simp only [intOf];omega⟩
   | false =>
    have o:JS D n (j-2+2)=false:=by unfold JS;rw [show j-2+2=j by omega,W];simp;omega
    go_wp2;go_big_quiet (fail);have f:=Qa (QT (w':=wr.drewN nq) m.out λ_ _=>rfl);have g:=Qa (QL h.out nq);clear m h t x E V;generalize wr.drewN nq=y at f g ⊢;go_wp2_with fail;exact ⟨⟨j+1,a,_,l,by omega,by omega,by go_num,rfl,rfl,Qa (by rw [show j+1-2=j-2+1 by omega,Qda o];exact k.out),f,g⟩,by simp only [intOf];omega⟩
  have:j=n+1:=by omega
  subst this;go_wp2;go_ret;have e:Jg D n=l:=by unfold Jg;rw [show n-1=n+1-2 by omega,k.out]
  rw [e];exact ⟨q,rfl,m.out,h.out⟩
end Go.Proofs.YtobgcaemnpkbmaaGreatDoor
