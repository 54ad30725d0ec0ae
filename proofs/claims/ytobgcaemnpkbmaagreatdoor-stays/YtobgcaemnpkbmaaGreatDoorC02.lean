import Derived.Deep.RegionHeld3
import Derived.Test.YtobgcaemnpkbmaaGreatDoorC01
import Derived.Laws.OwnMore
import Derived.Maps.AppendAt
namespace Go.Proofs.YtobgcaemnpkbmaaGreatDoor
set_option maxRecDepth 100000
set_option maxHeartbeats 8000000
open List Go.RowKit
def Qca (b:Region.Mode) (a:Array Oper) (j i:Nat):Bool :=
 match a[j]? with|some oj=>oj.after.any (λe=>Region.binds b e&&e.on==i)|none=>false
def Qe7 (b:Region.Mode) (a:Array Oper) (j:Nat):Bool :=
 (List.range a.size).all λi=>i==j||Qca b a j i||(List.range a.size).any λk=>Qca b a j k&&(Qca b a k i||(List.range a.size).any λm=>Qca b a k m&&Qca b a m i)
def QgT (c:Region.Mode) (a:Array Oper) (b:Array Bool):Bool :=
 (List.range a.size).all λj=>!(b.getD j false)||(List.range a.size).all λi=>!(Qca c a j i)||b.getD i false
theorem Qh4 {b:Region.Mode} {a:Array Oper} {i j:Nat} {c:Oper} (h:Qca b a j i=true) (d:a[j]?=some c):∃ e,e ∈ c.after/\Region.binds b e=true/\e.on=i:=by unfold Qca at h;simp only [d] at h;obtain ⟨e,f,hb⟩:=Array.any_eq_true'.1 h;simp only [Bool.and_eq_true,beq_iff_eq] at hb;exact ⟨e,f,hb.1,hb.2⟩
def Qiq (c:Region.Mode) (b:Array Oper) (a:Array Bool):Prop:=∀ j i,i<b.size->a.getD j false=true->Qca c b j i=true->a.getD i false=true
theorem Qth {g:Region.Mode} {a:Array Oper} {f:Array Bool} (h:QgT g a f=true):Qiq g a f:=by
 intro j i l m b;have c:j<a.size:=by
  by_cases c:j<a.size
  ·exact c
  unfold Qca at b;rw [Array.getElem?_eq_none (Nat.le_of_not_lt c)] at b;cases b
 have d:=all_eq_true.1 h j (mem_range.2 c);rw [m] at d;simp only [Bool.not_true,Bool.false_or] at d;have k:=all_eq_true.1 d i (mem_range.2 l);rw [b] at k;simpa using k
def JV (P:Program) (c:Region.Mode) (b:Array Oper) (d:Exit->Act->World->Prop) (S:World->Prop):Nat->Array Bool->Act->World->Prop
 | 0,listed,a,w=>Region.ready c b listed=[]/\d .normal a w
 | fuel+1,listed,a,w =>
  (Region.ready c b listed=[]->d .normal a w) /\
  ∀ i ∈ Region.ready c b listed,wpOp P b d i (λf w'=>(Qe7 c b i=true \/ S w')/\JV P c b d S fuel (listed.setIfInBounds i true) f w') a w
section
variable {P : Program} {md : Region.Mode} {ops : Array Oper} {Q : Exit → Act → World → Prop} {S : World → Prop}
theorem QkV:∀ (fuel:Nat) (b:Array Bool) (a:Act) (w:World),JV P md ops Q S fuel b a w->wpAny P md ops Q fuel b a w| 0,_,_,_,h=>h| fuel+1,_,_,_,h=>⟨h.1,λi c=>wpOp_mono (λd w' f=>QkV fuel _ d w' f.2) (h.2 i c)⟩
theorem Qsp {i:Nat} {g:Oper} {v:Value} (D:ops[i]?=some g) (L:∀ (j:Nat) (X:Oper) cs b,ops[j]?=some X->X.op≠.select cs b) (a7:∀ c a w,Q (.panic c) (a.put g.dst v) w->Q (.panic c) a w) : ∀ (fuel:Nat) (d:Array Bool) (a:Act) (w:World), (∀ j l,ops[j]?=some l->j≠i->d.getD j true=false->(∀ e ∈ l.after,Region.binds md e=true->e.on≠i)->g.apart ops l=true) -> Qiq md ops d->i ∈ Region.ready md ops d->YieldsIf P ops S g v a->S w -> JV P md ops Q S fuel (d.setIfInBounds i true) (a.put g.dst v) w->JV P md ops Q S (fuel+1) d a w:=by
 have I:i<ops.size:=(Array.getElem?_eq_some_iff.1 D).1;intro fuel;induction fuel with
 | zero =>
  intro d a w _ _ q E u B;refine ⟨λh=>absurd (h▸q) not_mem_nil,λj F=>?_⟩;by_cases f:j=i
  ·subst f;exact E.wpOp D u ⟨.inr u,B⟩
  exact absurd (B.1▸ready_mono F f) not_mem_nil
 | succ fuel ih =>
  intro d a w K C q E u B;refine ⟨λh=>absurd (h▸q) not_mem_nil,λj F=>?_⟩;by_cases f:j=i
  ·subst f;exact E.wpOp D u ⟨.inr u,B⟩
  have a8:=B.2 j (ready_mono F f);obtain ⟨M,l,p,H⟩:=mem_ready.1 F;have N:∀ e ∈ l.after,Region.binds md e=true->e.on≠i:=by
   intro e n hb a2;have o:=H e n hb;have x:=(mem_ready.1 q).1;rw [a2] at o;by_cases y:i<d.size
   ·simp [y] at x o;rw [x] at o;cases o
   simp [Array.getElem?_eq_none (Nat.le_of_not_lt y)] at o
  have a0:Qe7 md ops j=false:=by
   cases a9:Qe7 md ops j with
   | false=>rfl
   | true =>
    have r:=all_eq_true.1 a9 i (mem_range.2 I);simp only [Bool.or_eq_true,beq_iff_eq] at r;rcases r with (e|e)|e
    ·exact absurd e (Ne.symm f)
    ·obtain ⟨e,n,hb,t⟩:=Qh4 e p;exact absurd t (N e n hb)
    obtain ⟨k,_,e⟩:=any_eq_true.1 e;simp only [Bool.and_eq_true] at e;obtain ⟨aa,n,hb,t⟩:=Qh4 e.1 p;have z:=H aa n hb;rw [t] at z;have G:d.getD i false=true:=by
     have s:=e.2;simp only [Bool.or_eq_true] at s;rcases s with s|s
     ·exact C k i I z s
     obtain ⟨m,ab,J⟩:=any_eq_true.1 s;simp only [Bool.and_eq_true] at J;exact C m i I (C k m (mem_range.1 ab) z J.1) J.2
    have x:=(mem_ready.1 q).1;by_cases y:i<d.size
    ·simp [y] at x G;rw [x] at G;cases G
    simp [Array.getElem?_eq_none (Nat.le_of_not_lt y)] at G
  have o:=wpOp_putIf p (K j l p f M N) (λcs b=>L i g cs b D) (λcs b=>L j l cs b p) a7 E a8;have Y:∀ k A,ops[k]?=some A->k≠i->(d.setIfInBounds j true).getD k true=false -> (∀ e ∈ A.after,Region.binds md e=true->e.on≠i)->g.apart ops A=true:=by
   intro k A z a3 a4 a5;refine K k A z a3 ?_ a5;by_cases O:j=k
   ·subst O;exact M
   rwa [getD_set_ne true O] at a4
  refine wpOp_mono (λac w' r=>?_) o;have R:S w':=by
   rcases r.2.1 with e|e
   ·rw [a0] at e;cases e
   exact e
  have a1:Qiq md ops (d.setIfInBounds j true):=by
   intro W ad a6 T U;by_cases V:j=W
   ·subst V;obtain ⟨e,n,hb,t⟩:=Qh4 U p;exact t▸getD_set_true (H e n hb)
   rw [getD_set_ne false V] at T;exact getD_set_true (C W ad a6 T U)
  refine ⟨.inr R,ih (d.setIfInBounds j true) ac w' Y a1 (ready_mono q (Ne.symm f)) r.1 R ?_⟩;rw [Array.setIfInBounds_comm _ _ f];exact r.2.2
theorem Qe6 {i:Nat} {d:Oper} {v:Value} {fuel:Nat} {b:Array Bool} {a:Act} {w:World} (f:ops[i]?=some d) (g:Region.noSelect ops=true) (j:Region.free md ops b i=true) (k:(Region.ready md ops b).contains i=true) (l:QgT md ops b=true) (m:∀ c a w,Q (.panic c) (a.put d.dst v) w->Q (.panic c) a w) (n:YieldsIf P ops S d v a) (o:S w) (h:JV P md ops Q S fuel (b.setIfInBounds i true) (a.put d.dst v) w):JV P md ops Q S (fuel+1) b a w := Qsp f (Region.noSelect_spec g) m fuel b a w (Region.free_spec f j) (Qth l) (by simpa using k) n o h
theorem Que {i:Nat} {c:Oper} {fuel:Nat} {b:Array Bool} {a:Act} {w:World} (g:ops[i]?=some c) (d:Region.ready md ops b=[i]) (k:Region.wanted c (yielded ops a.tmps)=true) (h:c.wp P a w (λl w'=>(Qe7 md ops i=true \/ S w')/\JV P md ops Q S fuel (b.setIfInBounds i true) l w') Q):JV P md ops Q S (fuel+1) b a w:=by refine ⟨λm=>absurd (d.symm.trans m) (cons_ne_nil _ _),λj f=>?_⟩;rw [d] at f;have:=mem_singleton.1 f;subst this;unfold Go.wpOp;simp only [g,k,if_true];exact .inl h
theorem Qq (i:Nat) {c:Oper} {fuel:Nat} {b:Array Bool} {a:Act} {w:World} (h:c.wp P a w (λd w'=>(Qe7 md ops i=true \/ S w')/\JV P md ops Q S fuel (b.setIfInBounds i true) d w') Q) (f:ops[i]?=some c:=by exact rfl) (g:Region.ready md ops b=[i]:=by kernel_rfl) (j:Region.wanted c (yielded ops a.tmps)=true:=by rfl):JV P md ops Q S (fuel+1) b a w := Que f g j h
theorem Zk {b:Array Bool} {a:Act} {w:World} (c:Region.ready md ops b=[]) (h:Q .normal a w):∀ fuel,JV P md ops Q S fuel b a w| 0=>⟨c,h⟩| _+1=>⟨λ_=>h,λ_ d=>absurd (c▸d) not_mem_nil⟩
theorem Zm {id:Nat} {a:Act} {w:World} (b:P.follows .mixedOrders=true) (h:JV P .any ops Q S ops.size (Array.replicate ops.size false) a w.drew):(Code.region id ops true).wp P Q a w := wp_region_any b (QkV _ _ _ _ h)
end
def QdZ (c:Region.Mode) (a:Array Oper) (b:Array Bool) (i:Nat):Bool:=Region.noSelect a&&Region.free c a b i&&(Region.ready c a b).contains i&&QgT c a b
def Qge (P:Program) (h:Region.Mode) (b:Array Oper) (f:Exit->Act->World->Prop) (S:World->Prop) (fuel:Nat) (g:Array Bool) (a:Act) (w:World) (i:Nat):Prop :=
 ∃ d v,b[i]?=some d/\QdZ h b g i=true/\(∀ c a w,f (.panic c) (a.put d.dst v) w->f (.panic c) a w)/\YieldsIf P b S d v a/\S w/\JV P h b f S fuel (g.setIfInBounds i true) (a.put d.dst v) w
theorem QsW {P:Program} {f:Region.Mode} {c:Array Oper} {g:Exit->Act->World->Prop} {S:World->Prop} {fuel:Nat} {d:Array Bool} {a:Act} {w:World} (h:∀ i,c.size-(fuel+1)=i->Qge P f c g S fuel d a w i):JV P f c g S (fuel+1) d a w:=by obtain ⟨o,v,j,b,k,l,m,n⟩:=h _ rfl;unfold QdZ at b;simp only [Bool.and_eq_true] at b;exact Qe6 j b.1.1.1 b.1.1.2 b.1.2 b.2 k l m n
theorem J0 {P:Program} {f:Region.Mode} {d:Array Oper} {g:Exit->Act->World->Prop} {S:World->Prop} {fuel:Nat} {c:Array Bool} {a:Act} {w:World} (i:Nat) (h:Qge P f d g S fuel c a w i):JV P f d g S (fuel+1) c a w:=by obtain ⟨o,v,j,b,k,l,m,n⟩:=h;unfold QdZ at b;simp only [Bool.and_eq_true] at b;exact Qe6 j b.1.1.1 b.1.1.2 b.1.2 b.2 k l m n
theorem QiX {P:Program} {j:Region.Mode} {d:Array Oper} {f:Exit->Act->World->Prop} {S:World->Prop} {fuel:Nat} {g:Array Bool} {a:Act} {w:World} {i:Nat} {b:Oper} {v:Value} (k:d[i]?=some b) (l:QdZ j d g i=true) (m:∀ c a w,f (.panic c) (a.put b.dst v) w->f (.panic c) a w) (n:Region.wanted b (yielded d a.tmps)=true) (o:∀ w,S w->(execOp a.eval b).run P w=.ok (.value v) w) (p:S w) (h:JV P j d f S fuel (g.setIfInBounds i true) (a.put b.dst v) w):Qge P j d f S fuel g a w i := ⟨b,v,k,l,m,.inl ⟨n,o⟩,p,h⟩
theorem JZ {P:Program} {j:Region.Mode} {b:Array Oper} {f:Exit->Act->World->Prop} {S:World->Prop} {fuel:Nat} {g:Array Bool} {a:Act} {w:World} {i:Nat} {d:Oper} {v:Value} (k:∀ w,S w->(execOp a.eval d).run P w=.ok (.value v) w) (l:S w) (h:JV P j b f S fuel (g.setIfInBounds i true) (a.put d.dst v) w) (m:b[i]?=some d:=by exact rfl) (n:QdZ j b g i=true:=by kernel_rfl) (o:∀ c a w,f (.panic c) (a.put d.dst v) w->f (.panic c) a w:=by exact λ_ _ _ h=>h) (p:Region.wanted d (yielded b a.tmps)=true:=by rfl):Qge P j b f S fuel g a w i := QiX m n o p k l h
theorem Q0 {P:Program} {k:Region.Mode} {b:Array Oper} {f:Exit->Act->World->Prop} {S:World->Prop} {fuel:Nat} {g:Array Bool} {a:Act} {w:World} {i:Nat} {d:Oper} {v:Value} (l:∀ w,S w->(execOp a.eval d).run P w=.ok (.value v) w) (m:S w) (h:JV P k b f S fuel (g.setIfInBounds i true) (a.put d.dst v) w) (n:b.size-(fuel+1)=i:=by simp only [List.size_toArray,List.length_cons,List.length_nil,Nat.reduceAdd,Nat.reduceSub];exact rfl) (o:b[i]?=some d:=by exact rfl) (p:QdZ k b g i=true:=by kernel_rfl) (q:∀ c a w,f (.panic c) (a.put d.dst v) w->f (.panic c) a w:=by exact λ_ _ _ h=>h) (r:Region.wanted d (yielded b a.tmps)=true:=by rfl):JV P k b f S (fuel+1) g a w := QsW λj e=>(e.symm.trans n:j=i)▸QiX o p q r l m h
structure PN where
 id:Int
 par:Int
 tag:ByteArray
 key:Int
 text:ByteArray
 ats:List (ByteArray × ByteArray)
def Q4 (l:List (ByteArray × ByteArray)) (i:Nat):ByteArray:=(l.getD i (ByteArray.empty,ByteArray.empty)).1
def Zq (l:List (ByteArray × ByteArray)) (i:Nat):ByteArray:=(l.getD i (ByteArray.empty,ByteArray.empty)).2
structure RN extends PN where
 ao:Option Addr
 an:Nat
 ac:Nat
def RN.cells (n:RN):List Value:=[Xi n.id,Xi n.par,.string n.tag,Xi n.key,.slice n.ao n.an n.ac,.string n.text]
def QeV (R:List RN):List Value:=R.flatMap RN.cells
theorem Qrm (R:List RN) (i r:Nat) (b:i<R.length) (d:r<6):(QeV R)[i*6+r]?=(R[i]).cells[r]?:=by
 induction R generalizing i with
 | nil=>exact absurd b (Nat.not_lt_zero _)
 | cons a R ih =>
  have e:QeV (a::R)=a.cells++QeV R:=by unfold QeV;rw [flatMap_cons]
  rw [e];cases i with
  | zero=>rw [getElem?_append_left (by show 0*6+r<6;omega)];simp
  | succ i =>
   rw [getElem?_append_right (by show 6<=_;omega)];have c:(i+1)*6+r-a.cells.length=i*6+r:=by show _-6=_;omega
   rw [c,ih i (by simpa using b)];rfl
structure RN.Ok (S:Nat->Prop) (w:World) (n:RN):Prop where
 an:n.an=n.ats.length
 few:n.an<=5
 nil:n.ao=none->n.an=0/\n.ac=0
 tag:n.tag.size<=maxLen
 text:n.text.size<=maxLen
 at':JW w n.ao n.an (Q4 n.ats) (Zq n.ats)
 own:∀ ad,n.ao=some ad->S ad.block/\ad.block<w.heap.size
structure Qbb (S:Nat->Prop) (w:World) (p:Nat) (R:List RN) (last:Int) (v:Value):Prop where
 sp:S p
 c0:w.cell? (Xa p 0)=some v
 c1:w.cell? (Xa p 1)=some (Xi 1)
 c2:w.cell? (Xa p 2)=some (Xi last)
 f0:w.frozen? (Xa p 0)=false
 f2:w.frozen? (Xa p 2)=false
 row:w.ownsRow 0 185 6 v R.length (QeV R)
 srow:∀ g,v.ownBlock=some g->S g/\g≠p
 few:R.length<=800
 node:∀ n,n ∈ R->n.Ok S w
 apart:∀ n,n ∈ R->∀ ad,n.ao=some ad->ad.block≠p/\some ad.block≠v.ownBlock
theorem RN.Ok.mono {S S':Nat->Prop} {w:World} {n:RN} (h:n.Ok S w) (c:∀ b,b<w.heap.size->S b->S' b):n.Ok S' w := ⟨h.an,h.few,h.nil,h.tag,h.text,h.at',λa e=>⟨c _ (h.own a e).2 (h.own a e).1,(h.own a e).2⟩⟩
theorem RN.Ok.below {S:Nat->Prop} {w w':World} {n:RN} (h:n.Ok S w) (hb:Xb w w'):n.Ok S w' := ⟨h.an,h.few,h.nil,h.tag,h.text,h.at'.below hb,λa e=>⟨(h.own a e).1,Nat.lt_of_lt_of_le (h.own a e).2 hb.size⟩⟩
theorem Qbb.lt {S:Nat->Prop} {w:World} {p:Nat} {R:List RN} {last:Int} {v:Value} (h:Qbb S w p R last v):p<w.heap.size:=block_lt_of_cell h.c0
theorem Zi {w w':World} {base:Nat} {e:TypeId} {size:Nat} {v:Value} {n:Nat} {xs:List Value} (h:w.ownsRow base e size v n xs) (hb:Xb w w'):w'.ownsRow base e size v n xs := h.kept (row:=none) ⟨hb.os,hb.tape,hb.output,hb.size,λk a _=>hb.block k a⟩ (by cases b:v.ownBlock<;>simp)
theorem Qbb.below {S:Nat->Prop} {w w':World} {p:Nat} {R:List RN} {last:Int} {v:Value} (h:Qbb S w p R last v) (hb:Xb w w'):Qbb S w' p R last v:=by have a:=h.lt;exact ⟨h.sp,(Xh hb p _ a).trans h.c0,(Xh hb p _ a).trans h.c1,(Xh hb p _ a).trans h.c2, (Xj hb p _ a).trans h.f0,(Xj hb p _ a).trans h.f2,Zi h.row hb,h.srow,h.few,λn b=>(h.node n b).below hb,h.apart⟩
def QX (R:List RN) (id:Int):Int:=match R.findIdx? (λn=>n.id==id) with|some k=>(k:Int)|none=>-1
theorem QuJ {R:List RN} {id:Int} {k:Nat} (c:k<R.length) (h:R[k].id=id) (b:∀ j,(a:j<R.length)->j<k->R[j].id≠id):QX R id=k:=by
 unfold QX;have:R.findIdx? (λn=>n.id==id)=some k:=by rw [findIdx?_eq_some_iff_getElem];refine ⟨c,by simp [h],λj a=>?_⟩;simpa using b j (by omega) a
 rw [this]
theorem Qtd {R:List RN} {id:Int} (b:∀ j,(a:j<R.length)->R[j].id≠id):QX R id=-1:=by
 unfold QX;have:R.findIdx? (λn=>n.id==id)=none:=by rw [findIdx?_eq_none_iff];intro x c;obtain ⟨j,a,rfl⟩:=getElem_of_mem c;simpa using b j a
 rw [this]
theorem Qbb.at {S:Nat->Prop} {w:World} {p:Nat} {R:List RN} {last:Int} {v:Value} (h:Qbb S w p R last v) (k:0<R.length) : ∃ g cap,v=Xe g R.length cap/\R.length<=cap/\g<w.heap.size/\S g/\g≠p/\∀ i r,(a:i<R.length)->r<6->w.cell? (Xa g (i*6+r))=(R[i]).cells[r]?:=by
 rcases h.row.2 with ⟨_,e⟩|⟨g,cap,j,rfl,_,c,d,_⟩
 ·omega
 have b:=h.srow g rfl;refine ⟨g,cap,rfl,d,(Array.getElem?_eq_some_iff.1 c).1,b.1,b.2,λi r a f=>?_⟩;rw [h.row.cellAt (i*6+r) (by omega),Qrm R i r a f]
theorem Qbb.nil {S:Nat->Prop} {w:World} {p:Nat} {R:List RN} {last:Int} {v:Value} (h:Qbb S w p R last v):∃ ao cap,v=.slice ao R.length cap:=by
 rcases h.row.2 with ⟨rfl,e⟩|⟨g,cap,a,rfl,_,b,c,_⟩
 ·exact ⟨none,0,by rw [e]⟩
 exact ⟨_,cap,rfl⟩
theorem ZS (b a j:Nat):((Xa b a):Addr).add j=(Xa b (a+j)):=by
 unfold Addr.add;split
 ·next h=>subst h;rfl
 rfl
def Zl (w w':World) (v a:Value):Prop:=(a.ownBlock=v.ownBlock/\w.grownBy w' v.ownBlock/\w'.heap.size=w.heap.size) \/ (a.ownBlock=some w.heap.size/\w.grownBy w' none)
theorem Zl.by {w w':World} {v a:Value} (h:Zl w w' v a):w.grownBy w' v.ownBlock:=by
 rcases h with ⟨_,h,_⟩|⟨_,h⟩
 ·exact h
 exact ⟨h.os,h.tape,h.output,h.size,λk b _=>h.block k b (by simp)⟩
theorem Zl.size {w w':World} {v a:Value} (h:Zl w w' v a):w.heap.size<=w'.heap.size:=h.by.size
theorem Zl.at {w w':World} {v a:Value} (h:Zl w w' v a):a.ownBlock=v.ownBlock \/ a.ownBlock=some w.heap.size:=h.imp (·.1) (·.1)
theorem Qkz {P:Program} (w:World) (base:Nat) (t o e:TypeId) (i:TypeInfo) (z:Value) (size F:Nat) (p:P.underlying t=some (.slice e)) (q:P.info? e=some i) (J:i.zero=some z) (N:i.size=size) (V:i.bytes=F) (W:z.cells.size=size) (v:Value) (n:Nat) (xs:List Value) (l:w.ownsRow base e size v n xs) (ao:Option Addr) (m c:Nat) (b:List Value) (O:ao=none->m=0/\c=0) (d:b.length=m*size) (h:∀ a,ao=some a->∀ j u,b[j]?=some u->w.cell? (a.add j)=some u) (a2:∀ u ∈ b,u.oneCell'=true) (a4:n+m<=9223372036854775807) (E:(n+m)*F<=140737488355328) (R:base<=w.heap.size) : ∃ y w',(Builtin.append_ #[t,t] o #[v,.slice ao m c]).run P w=.ok y w'/\w'.ownsRow base e size y (n+m) (xs++b)/\Zl w w' v y /\ (y=Xv↔v=Xv/\m=0):=by
 subst N V;have T:n+m<=maxLen:=by unfold maxLen;omega
 have x:=l.1;have s:(xs++b).length=(n+m)*i.size:=by rw [length_append,x,d,Nat.add_mul]
 cases ao with
 | none =>obtain ⟨rfl,rfl⟩:=O rfl;have B:b=[]:=eq_nil_of_length_eq_zero (by simpa using d);subst B;refine ⟨v,w,run_append_owned_none w base t o e i i.size p q v n xs l,by simpa using l,.inl ⟨rfl,World.grownBy.refl _ _,rfl⟩,by simp⟩
 | some a =>
  have h:=h a rfl;have G:∀ f,f<n+m->(w.drew.alloc (.cells (xs.toArray++b.toArray++Builtin.zeroCells z.cells (grownCap w (n+m) f e-(n+m))) e)).ownsRow base e i.size (Xe w.heap.size (n+m) (grownCap w (n+m) f e)) (n+m) (xs++b):=by
   intro f _;have X:=grownCap_ge w (n+m) f e;refine ⟨s,.inr ⟨w.heap.size,_,_,rfl,R,heap_alloc_new w.drew _,X,grownCap_le_maxLen w (n+m) f e T,?_,?_⟩⟩
   ·rw [Array.size_append,Array.size_append,size_zeroCells,W,size_toArray,size_toArray,x,d,<- Nat.add_mul,<- Nat.add_mul];congr 1
    omega
   rw [<- s,Array.toList_append,Array.toList_append];exact take_left
  have H:∀ M:Obj,w.grownBy (w.drew.alloc M) none:=λM=>⟨rfl,rfl,rfl,by simp,λk D _=>heap_alloc_old w.drew _ D⟩;rcases l.2 with ⟨rfl,rfl⟩|⟨g,cap,C,rfl,Y,K,a5,a0,a1,S⟩
  ·have a3:xs=[]:=eq_nil_of_length_eq_zero (by simpa using x);subst a3;by_cases L:m=0
   ·subst L;have B:b=[]:=eq_nil_of_length_eq_zero (by simpa using d);subst B;refine ⟨Xv,w,?_,World.ownsRow_nil w base e i.size,.inl ⟨rfl,World.grownBy.refl _ _,rfl⟩,by simp⟩;simp [Builtin.append_,run_underlying p,sizeOf,typeInfo,q,Builtin.lenOf,Builtin.firstCells,loadCells,loadCellsFrom]
   have r:=run_append_nil (P:=P) w t o e i z p q J a m c b d h (by omega) (by omega) (by have hb:=E;simp only [Nat.zero_add] at hb;omega);have I:=G 0 (by omega);simp only [Nat.zero_add,nil_append,Array.empty_append] at I ⊢;exact ⟨_,_,r,I,.inr ⟨rfl,H _⟩,by simp [L]⟩
  by_cases A:n+m<=cap
  ·have U:n*i.size+b.length<=C.size:=by rw [d,a1,<- Nat.add_mul];exact Nat.mul_le_mul_right _ A
   have r:=run_append_room (P:=P) w t o e i p q g n cap C K a m c b d h a2 A U;refine ⟨_,_,r,⟨s,.inr ⟨g,cap,_,rfl,Y,setRow_heap w g C _ e _ K,A,a0,?_,?_⟩⟩,.inl ⟨rfl,⟨rfl,rfl,rfl,by simp,λk _ D=>setRow_other w g k _ (λe=>D (by simp [Value.ownBlock,e]))⟩,by simp⟩,by simp⟩
   ·simp only [size_toArray,length_append,length_take,length_drop,Array.length_toList];omega
   rw [S,<- s];exact take_left
  have r:=run_append_grow (P:=P) w t o e i z p q J (Xa g 0) n cap xs x (l.cells (g:=g) rfl) a m c b d h (by omega) (by omega) (growslice_fits (by omega) E);exact ⟨_,_,r,G cap (by omega),.inr ⟨rfl,H _⟩,by simp⟩
theorem Jf {P:Program} (w:World) {k:Array Oper} {rest:List Oper} {f:Oper} {a:Act} {l:Exit->Act->World->Prop} (B:f.guard=none) (s x:Operand) (t:TypeId) (F:f.op=.call { callee:=.builtin .append,args:=#[s,x],argTypes:=#[t,t] }) (base:Nat) (e:TypeId) (i:TypeInfo) (z:Value) (size g:Nat) (G:P.underlying t=some (.slice e)) (H:P.info? e=some i) (I:i.zero=some z) (p:i.size=size) (C:i.bytes=g) (D:z.cells.size=size) (v:Value) (n:Nat) (xs:List Value) (J:a.eval s=v) (A:w.ownsRow base e size v n xs) (ao:Option Addr) (m c:Nat) (d:List Value) (K:a.eval x=.slice ao m c) (q:ao=none->m=0/\c=0) (L:d.length=m*size) (r:∀ a,ao=some a->∀ j u,d[j]?=some u->w.cell? (a.add j)=some u) (M:∀ u ∈ d,u.oneCell'=true) (E:n+m<=9223372036854775807) (o:(n+m)*g<=140737488355328) (y:base<=w.heap.size) (h:∀ b w',Hid (w'.ownsRow base e size b (n+m) (xs++d))->Hid (Zl w w' v b)->Hid (b=Xv↔v=Xv/\m=0)->wpList P k l rest (a.put f.dst b) w'):wpList P k l (f::rest) a w:=by refine wpList_plain B λU N=>?_;obtain ⟨b,w',O,R,S,T⟩:=Qkz (P:=P) w base t f.type e i z size g G H I p C D v n xs A ao m c d q L r M E o y;unfold Oper.wp execOp;simp only [F,resolve,invoke,builtin,Sem.run_bind,Sem.run_pure,Result.andThen_ok,map_toArray,map_cons,map_nil,J,K,O];exact N _ _ (h b w' (Qa R) (Qa S) (Qa T))
theorem Z9 (w:World) (xs:Array Value) (t:TypeId):∀ a,some ((Xa w.heap.size 0):Addr)=some a->∀ j u,xs.toList[j]?=some u->(w.alloc (.cells xs t)).cell? (a.add j)=some u:=by intro a e j u b;cases e;rw [ZS,cell_of_row _ _ _ xs t (0,0) (heap_alloc_new w _)];simpa using b
def QaL (R:List RN) (i:Nat):Int:=match R[i]? with|some n=>n.par|none=>0
def Qbt (R:List RN) (id:Int) (k:Nat):List Nat:=(List.range k).filter λi=>QaL R i==id
def Qy (R:List RN) (id:Int):List Nat:=if id=0 then [] else Qbt R id R.length
theorem QnM {R:List RN} {id:Int} {k:Nat} (h:QaL R k=id):Qbt R id (k+1)=Qbt R id k++[k]:=by unfold Qbt;rw [range_succ,filter_append];simp [h]
theorem QnQ {R:List RN} {id:Int} {k:Nat} (h:¬ QaL R k=id):Qbt R id (k+1)=Qbt R id k:=by unfold Qbt;rw [range_succ,filter_append];simp [h]
theorem QbA {R:List RN} {i:Nat} (h:i<R.length):QaL R i=R[i].par:=by unfold QaL;rw [getElem?_eq_getElem h]
def QkU (l:List Nat):List Value:=l.map λ(i:Nat)=>Value.int .i64 (i:Int)
theorem Qds:(Tryz.prog.info? 3).map (λi=>(i.zero,i.size,i.bytes))=some (some (Xi 0),1,8):=by kernel_rfl
def Jk (w:World) (a:Nat) (v:Value) (l:List Value):Prop:=w.ownsRow a 3 1 v l.length l
def Qj (R:List RN) (i:Nat):Int:=match R[i]? with|some n=>n.id|none=>0
theorem QS {R:List RN} {i:Nat} (h:i<R.length):Qj R i=R[i].id:=by unfold Qj;rw [getElem?_eq_getElem h]
def QF (R:List RN):Nat->Nat->Int->List (Nat × Int)
 | 0,_,_=>[]
 | f+1,a,d=>(a,d)::(Qy R (Qj R a)).flatMap λk=>QF R f k (d+1)
def ZP (R:List RN):Nat->Nat->Prop
 | 0,_=>False
 | f+1,a=>a<R.length/\∀ k,k ∈ Qy R (Qj R a)->ZP R f k
def QhO (a:List (Nat × Int)):List Value:=a.map λx=>Value.int .i64 (x.1:Int)
def Qis (a:List (Nat × Int)):List Value:=a.map λx=>Value.int .i64 x.2
theorem Jk.some {w:World} {a:Nat} {ao:Option Addr} {n c:Nat} {l:List Value} (h:Jk w a (.slice ao n c) l) (i:0<l.length):∃ g,ao=some (Xa g 0)/\n<=c/\a<=g/\g<w.heap.size/\∀ j,j<l.length->w.cell? (Xa g j)=l[j]?:=by
 rcases h.2 with ⟨_,e⟩|⟨g,cap,f,e,hb,b,d,_⟩
 ·omega
 cases e;exact ⟨g,rfl,d,hb,(Array.getElem?_eq_some_iff.1 b).1,λj k=>World.ownsRow.cellAt h j (by omega)⟩
theorem Jk.below {w w':World} {a:Nat} {v:Value} {l:List Value} (h:Jk w a v l) (hb:Xb w w'):Jk w' a v l:=Zi h hb
theorem Jk.kept {w w':World} {a:Nat} {v:Value} {l:List Value} {row:Option Nat} (h:Jk w a v l) (c:w.grownBy w' row) (b:v.ownBlock=none \/ v.ownBlock≠row):Jk w' a v l:=World.ownsRow.kept h c b
theorem Jk.mono {w:World} {b a:Nat} {v:Value} {l:List Value} (h:Jk w b v l) (d:a<=b):Jk w a v l:=by refine ⟨h.1,h.2.imp id ?_⟩;rintro ⟨g,cap,c,e,hb,r⟩;exact ⟨g,cap,c,e,Nat.le_trans d hb,r⟩
theorem Jk.none {w:World} {a:Nat} {ao:Option Addr} {n c:Nat} {l:List Value} (h:Jk w a (.slice ao n c) l) (e:ao=Option.none):n=0/\c=0:=by
 rcases h.2 with ⟨e',_⟩|⟨g,cap,b,e',_⟩
 ·cases e';exact ⟨rfl,rfl⟩
 cases e';cases e
structure Qqh (w w':World) (W:List (Nat × Int)) (r1 r2:Value):Prop where
 o1:Jk w' w.heap.size r1 (QhO W)
 o2:Jk w' w.heap.size r2 (Qis W)
 bel:Xb w w'
structure Qdh (w wr:World) (kv q1 q2:Value) (K:List Nat) (W:List (Nat × Int)):Prop where
 o1:Jk wr w.heap.size q1 (QhO W)
 o2:Jk wr w.heap.size q2 (Qis W)
 ok:Jk wr w.heap.size kv (QkU K)
 n12:q2.ownBlock≠q1.ownBlock
 n1:kv.ownBlock=none \/ kv.ownBlock≠q1.ownBlock
 n2:kv.ownBlock=none \/ kv.ownBlock≠q2.ownBlock
 bel:Xb w wr
theorem QeZ {w:World} {a:Nat} {e:TypeId} {size:Nat} {v:Value} {n:Nat} {xs:List Value} (h:w.ownsRow a e size v n xs) {M:Nat} (b:w.heap.size<=M):v.ownBlock≠Option.some M:=by intro e;have:=(h.lt M e).2;omega
theorem QbW {w w':World} {q a v:Value} (d:Zl w w' q a) (b:v.ownBlock=none \/ v.ownBlock≠q.ownBlock) (c:v.ownBlock≠Option.some w.heap.size):v.ownBlock=none \/ v.ownBlock≠a.ownBlock:=by
 rcases d.at with e|e
 ·rw [e];exact b
 rw [e];exact .inr c
theorem Qdh.far {w wr w1:World} {c a d r:Value} {i:List Nat} {j:List (Nat × Int)} (h:Qdh w wr c a d i j) {l:List Value} (f:Jk w1 wr.heap.size r l):r.ownBlock=Option.none \/ r.ownBlock≠a.ownBlock:=by cases g:r.ownBlock with| none=>exact .inl rfl| some b =>refine .inr λe=>?_;have k:=(World.ownsRow.lt f b g).1;have m:=(World.ownsRow.lt h.o1 b e.symm).2;omega
theorem Qdh.step {w wr w1 w2 k:World} {o p l c f y z:Value} {u:List Nat} {g i:List (Nat × Int)} (h:Qdh w wr o p l u g) (A:Qqh wr w1 i y z) (n:Jk w2 w.heap.size c (QhO (g++i))) (a:Zl w1 w2 p c) (v:Jk k w.heap.size f (Qis (g++i))) (d:Zl w2 k l f):Qdh w k o c f u (g++i):=by
 have b:=A.bel;have G:=h.o1.below b;have q:=h.o2.below b;have r:=h.ok.below b;have H:=q.kept a.by (.inr h.n12);have s:=r.kept a.by h.n1;have t:l.ownBlock≠c.ownBlock:=by
  rcases a.at with e|e
  ·rw [e];exact h.n12
  rw [e];exact QeZ q (Nat.le_refl _)
 have B:=QbW a h.n1 (QeZ r (Nat.le_refl _));have C:=QbW d h.n2 (QeZ s (Nat.le_refl _));have D:f.ownBlock≠c.ownBlock:=by
  rcases d.at with e|e
  ·rw [e];exact t
  rw [e];exact Ne.symm (QeZ n (Nat.le_refl _))
 refine ⟨n.kept d.by (.inr (Ne.symm t)),v,s.kept d.by h.n2,D,B,C,?_⟩;have x:=h.bel.size;have E:=h.bel.trans (b.mono x);have F:=E.grown a.by (by have:=b.size;omega) (λj m=>(h.o1.lt j m).1);exact F.grown d.by (by have:=b.size;have:=a.size;omega) (λj m=>(h.o2.lt j m).1)
theorem Qdh.start {w w2:World} {f:Value} {h:List Nat} {a:Nat} {d:Int} {t:TypeId} (j:t=3) (hb:Below (w.heap.size+2) ((w.alloc (.cells #[Xi a] t)).alloc (.cells #[Xi d] t)) w2) (b:Jk w2 (w.heap.size+2) f (QkU h)) : Qdh w w2 f (Xe w.heap.size 1 1) (Xe (w.heap.size+1) 1 1) h [(a,d)]:=by
 subst j;have k:=World.ownsRow_lit (base:=w.heap.size) (e:=3) (size:=1) w #[Xi a] 1 (Nat.le_refl _) (by unfold maxLen;omega) rfl;have i:=k.alloc (.cells #[Xi d] 3);have g:=World.ownsRow_lit (base:=w.heap.size) (e:=3) (size:=1) (w.alloc (.cells #[Xi a] 3)) #[Xi d] 1 (by simp) (by unfold maxLen;omega) rfl;have c:Below ((w.alloc (.cells #[Xi a] 3)).alloc (.cells #[Xi d] 3)).heap.size ((w.alloc (.cells #[Xi a] 3)).alloc (.cells #[Xi d] 3)) w2:=by simpa using hb
 have e:(w.alloc (.cells #[Xi a] 3)).heap.size=w.heap.size+1:=by simp
 rw [e] at g;refine ⟨Zi i c,Zi g c,b.mono (by omega),by simp [Value.ownBlock],?_,?_,?_⟩
 ·refine .inr λe=>?_;have:=(World.ownsRow.lt b w.heap.size e).1;omega
 ·refine .inr λe=>?_;have:=(World.ownsRow.lt b (w.heap.size+1) e).1;omega
 exact (((Below.refl w.heap.size w).alloc (Nat.le_refl _) _).alloc (by simp) _).trans (hb.mono (by omega))
end Go.Proofs.YtobgcaemnpkbmaaGreatDoor
