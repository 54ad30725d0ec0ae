import Derived.Deep.MidRow
import Derived.Handy
import Derived.Test.YtobgcaemnpkbmaaGreatDoorC04
namespace Go.Proofs.YtobgcaemnpkbmaaGreatDoor
set_option maxRecDepth 100000
set_option maxHeartbeats 8000000
open Go.RowKit List
structure Cm where
 on:Bool
 gen:Int
 par:Int
 fa:Int
 fb:Int
 fc:Int
 no:Option Addr
 nn:Nat
 nc:Nat
 ns:List Int
structure QjE (w:World) (b o:Nat) (x:Cm):Prop where
 c0:w.cell? ⟨b,o,none⟩=some (.bool x.on)
 c1:w.cell? ⟨b,o+1,none⟩=some (.int .i64 x.gen)
 c2:w.cell? ⟨b,o+2,none⟩=some (.int .i64 x.par)
 c3:w.cell? ⟨b,o+3,none⟩=some (.int .i64 x.fa)
 c4:w.cell? ⟨b,o+4,none⟩=some (.int .i64 x.fb)
 c5:w.cell? ⟨b,o+5,none⟩=some (.int .i64 x.fc)
 c6:w.cell? ⟨b,o+6,none⟩=some (.slice x.no x.nn x.nc)
theorem QmX (b d:Nat) (k:Nat) (x:Cm) (w:World) (f:k<21) (h:QjE w b (d+k*7) x) : Calls Tryz.prog 80 #[.pointer (some ⟨b,d,none⟩),.int .i64 k] w λe w'=>e=.returned (.int .i64 (if x.on then x.gen else 0))/\Below w.heap.size w w':=by obtain ⟨c,g,i,j,l,m,n⟩:=h;cases a:x.on with| true =>rw [a] at c;go_enter Tryz.func80,Tryz.ntmps80;go_wp2;go_ret;exact ⟨rfl,(Below.refl _ _).alloc (Nat.le_refl _) _⟩| false =>rw [a] at c;go_enter Tryz.func80,Tryz.ntmps80;go_wp2;go_ret;exact ⟨rfl,(Below.refl _ _).alloc (Nat.le_refl _) _⟩
def Qag (x:Cm):List Value:=[.bool x.on,.int .i64 x.gen,.int .i64 x.par,.int .i64 x.fa,.int .i64 x.fb,.int .i64 x.fc,.slice x.no x.nn x.nc]
def QaC (C:Nat->Cm):Nat->List Value
 | 0=>[]
 | n+1=>QaC C n++Qag (C n)
theorem Qcx (C:Nat->Cm):∀ n,(QaC C n).length=n*7| 0=>rfl| n+1=>by rw [QaC,length_append,Qcx C n];simp [Qag];omega
theorem QcS (C:Nat->Cm) (i r:Nat) (a:r<7):∀ n,i<n->(QaC C n)[i*7+r]?=(Qag (C i))[r]?
 | 0,h=>absurd h (Nat.not_lt_zero _)
 | n+1,h=>by
  rw [QaC];by_cases e:i=n
  ·subst e;rw [getElem?_append_right (by rw [Qcx];omega),Qcx];congr 1;omega
  rw [getElem?_append_left (by rw [Qcx];omega)];exact QcS C i r a n (by omega)
def QaF (w:World) (b a:Nat) (C:Nat->Cm):Prop:=w.rangeAt b a (QaC C 21)
theorem QaF.cm {w:World} {b a:Nat} {C:Nat->Cm} (h:QaF w b a C) (i:Nat) (d:i<21):QjE w b (a+i*7) (C i):=by
 have e:∀ r,(c:r<7)->∀ v,(Qag (C i))[r]?=some v->w.cell? ⟨b,a+i*7+r,none⟩=some v:=λr c v f=>by have:=h (i*7+r) v (by rw [QcS C i r c 21 d];exact f);rwa [<- Nat.add_assoc] at this
 exact ⟨e 0 (by omega) _ rfl,e 1 (by omega) _ rfl,e 2 (by omega) _ rfl,e 3 (by omega) _ rfl,e 4 (by omega) _ rfl,e 5 (by omega) _ rfl,e 6 (by omega) _ rfl⟩
theorem Qor (C:Nat->Cm) (i:Nat) (b:i<21):List.take 7 (List.drop (i*7) (QaC C 21))=Qag (C i):=by
 apply ext_getElem?;intro r;rw [getElem?_take];by_cases a:r<7
 ·rw [if_pos a,getElem?_drop];exact QcS C i r a 21 b
 rw [if_neg a,getElem?_eq_none (by simp [Qag];omega)]
theorem QmN (C:Nat->Cm) (i:Nat) (a:i<21) (w:World):(Instr.index 106 (.agg (QaC C 21).toArray) (.int .i64 i)).run Tryz.prog w=.ok (.agg (Qag (C i)).toArray) w:=by have h:=Tryz.underlying106;simp [Instr.index,run_underlying h,asIntOf,go_sem];rw [if_pos a,Qor C i a]
def Chn (C:Nat->Cm):Nat->Int->Prop
 | 0,p=>p=0
 | d+1,p=>∃ k:Nat,0<k/\k<21/\p=k/\Chn C d (C k).par
theorem Qpu (b f k d:Nat) (C:Nat->Cm) (w:World) (h:QaF w b f C) (y:k<21) (l:Chn C d (C k).par) (D:d<100) : Calls Tryz.prog 198 #[.pointer (some ⟨b,f,none⟩),.int .i64 k] w λe w'=>e=.returned (.int .i64 d)/\w'=w:=by
 have o:Hid (∀ i,i<21->w.cell? ⟨b,f+i*7+2,none⟩=some (.int .i64 (C i).par)):=Qa λi r=>(h.cm i r).c2;have z:=o.out k y;have s:=Qa l;have t:(0:Int)<=(k:Int):=by omega
 have u:(k:Int)<21:=by omega
 clear h l;go_enter Tryz.func198,Tryz.ntmps198;go_wp2;go_loopw [5,6] (λn p wr=>wr=w/\∃ i:Nat,∃ q:Int,i<=d/\n=.int .i64 i/\p=.int .i64 q/\Hid (Chn C (d-i) q)) (λn _ _=>d-(intOf n).toNat);·exact ⟨rfl,0,_,Nat.zero_le _,rfl,rfl,s⟩
 case round =>
  obtain ⟨rfl,i,q,r,rfl,rfl,a⟩:=hrel;clear s z t u;by_cases E:i<d
  ·obtain ⟨m,A⟩:∃ m,d-i=m+1:=⟨d-i-1,by omega⟩;have c:=a.out;rw [A] at c;obtain ⟨j,F,B,rfl,g⟩:=c;have G:=o.out j B;have t:(0:Int)<=(j:Int):=by omega
   have u:(j:Int)<21:=by omega
   have H:((j:Int) !=0)=true:=by simp;omega
   have v:Hid (Chn C (d-(i+1)) (C j).par):=Qa (by rw [show d-(i+1)=m by omega];exact g);clear a g;go_wp2;go_roundw;·exact ⟨trivial,i+1,_,by omega,by go_num,rfl,v⟩
   simp [intOf];omega
  have c:q=0:=by
   have e:d-i=0:=by omega
   have:=a.out;rw [e] at this;exact this
  subst c;have x:i=d:=by omega
  subst x;clear a;go_wp2;go_ret;exact ⟨rfl,rfl⟩
theorem Qrh (b f k d:Nat) (C:Nat->Cm) (w:World) (h:QaF w b f C) (i:k<21) (a:(C k).on=true->Chn C d (C k).par/\d<100) : Calls Tryz.prog 184 #[.pointer (some ⟨b,f,none⟩),.int .i64 k] w λe w'=>e=.returned (.bool ((C k).on&&decide (d+1<5)))/\w'=w:=by
 have j:=(h.cm k i).c0;have o:(0:Int)<=(k:Int):=by omega
 have p:(k:Int)<21:=by omega
 cases c:(C k).on with
 | false =>rw [c] at j;clear h a;go_enter Tryz.func184,Tryz.ntmps184;go_wp2;go_ret;exact ⟨rfl,rfl⟩
 | true =>
  rw [c] at j;obtain ⟨g,n⟩:=a c;have l:=Qa (Qpu b f k d C w h i g n);clear h a g;by_cases m:d+1<5
  ·rw [decide_eq_true m];go_enter Tryz.func184,Tryz.ntmps184;go_wp2_with (go_at_call 198;refine l.out.mono ?_;rintro e w1 ⟨rfl,rfl⟩);go_ret;exact ⟨by simp;omega,rfl⟩
  rw [decide_eq_false m];go_enter Tryz.func184,Tryz.ntmps184;go_wp2_with (go_at_call 198;refine l.out.mono ?_;rintro e w1 ⟨rfl,rfl⟩);go_ret;exact ⟨by simp;omega,rfl⟩
def Jc (C:Nat->Cm) (k:Nat) (x:Cm):Nat->Cm:=λi=>if i=k then x else C i
def QdV (C:Nat->Cm) (k:Nat) (p:Int) (a:Bool):Bool:=!(C k).on&&(p==0||a)
theorem QoC (b f k:Nat) (p:Int) (C:Nat->Cm) (w:World) (h:QaF w b f C) (j:k<21) (g:Bool) (c:p≠0->Calls Tryz.prog 184 #[.pointer (some ⟨b,f,none⟩),.int .i64 p] w λe w'=>e=.returned (.bool g)/\w'=w) (hb:QdV C k p g=false) : Calls Tryz.prog 152 #[.pointer (some ⟨b,f,none⟩),.int .i64 k,.int .i64 p] w λe w'=>e=.returned (.tuple #[])/\w'=w:=by
 have i:=(h.cm k j).c0;have n:(0:Int)<=(k:Int):=by omega
 have o:(k:Int)<21:=by omega
 unfold QdV at hb;clear h;cases a:(C k).on with
 | true =>rw [a] at i;clear c hb a;go_enter Tryz.func152,Tryz.ntmps152;go_wp2;refine bodyPost_ret (results_none rfl _ _ _) rfl ?_;exact ⟨rfl,rfl⟩
 | false =>
  rw [a] at i hb;rw [Bool.not_false,Bool.true_and,Bool.or_eq_false_iff] at hb;obtain ⟨d,rfl⟩:=hb;have m:(p !=0)=true:=by simpa [bne] using d
  have l:=Qa (c (by simpa using d));clear c d a;go_enter Tryz.func152,Tryz.ntmps152;go_wp2_with (go_at_call 184;refine l.out.mono ?_;rintro e w1 ⟨rfl,rfl⟩);refine bodyPost_ret (results_none rfl _ _ _) rfl ?_;exact ⟨rfl,rfl⟩
structure QeD (w:World) (b o k:Nat) (x:Cm) (w':World):Prop where
 far:Qx (λy=>y=b) w w'
 same:w'.rangeAt b (o+k*7) (Qag x)
 rest:∀ j,j<o+k*7 \/ o+k*7+7<=j->w'.cell? ⟨b,j,none⟩=w.cell? ⟨b,j,none⟩
 froz:∀ j,w'.frozen? ⟨b,j,none⟩=w.frozen? ⟨b,j,none⟩
 size:w'.heap.size=w.heap.size
theorem QmG (b:Nat):∀ (f:List Value) (a:Nat) (w:World),Qx (λj=>j=b) w (w.setCells b a f)/\(w.setCells b a f).heap.size=w.heap.size
 | [],_,_=>⟨⟨rfl,rfl,rfl,Nat.le_refl _,λ_ _ _=>rfl⟩,rfl⟩
 | v::r,a,w=>by
  rw [World.setCells];obtain ⟨c,g⟩:=QmG b r (a+1) (w.setCell ⟨b,a,none⟩ v);have d:(w.setCell ⟨b,a,none⟩ v).heap.size=w.heap.size:=by simp [World.setCell]
  exact ⟨⟨c.os,c.tape,c.output,by rw [g,d];exact Nat.le_refl _,λk i h=>(c.block k (by rw [d];exact i) h).trans (Below.heap_setCell _ _ _ _ h)⟩,g.trans d⟩
theorem Ql9 {w:World} {b a k:Nat} (m:∀ r,r<7->(w.cell? ⟨b,a+k*7+r,none⟩).isSome=true) (n:∀ j,w.frozen? ⟨b,j,none⟩=false) (x:Cm):QeD w b a k x (w.setCells b (a+k*7) (Qag x)).drew:=by
 have o:(Qag x).length=7:=rfl;have key:∀ c:List Value,c.length=7->Qx (λs=>s=b) w (w.setCells b (a+k*7) c).drew/\(w.setCells b (a+k*7) c).drew.rangeAt b (a+k*7) c/\(∀ j,j<a+k*7 \/ a+k*7+7<=j->(w.setCells b (a+k*7) c).drew.cell? ⟨b,j,none⟩=w.cell? ⟨b,j,none⟩)/\(∀ j,(w.setCells b (a+k*7) c).drew.frozen? ⟨b,j,none⟩=w.frozen? ⟨b,j,none⟩)/\(w.setCells b (a+k*7) c).drew.heap.size=w.heap.size:=by intro c p;have q:w.there b (a+k*7) c.length:=λj l=>⟨m j (by omega),n _⟩;obtain ⟨d,f⟩:=QmG b c (a+k*7) w;have g:=World.rangeAt_setCells_same w b (a+k*7) c q;have h:∀ j,j<a+k*7 \/ a+k*7+7<=j->(w.setCells b (a+k*7) c).cell? ⟨b,j,none⟩=w.cell? ⟨b,j,none⟩:=λj l=>World.cell?_setCells_out b c (a+k*7) w ⟨b,j,none⟩ (λ_ _=>by rw [p];exact l);have i:∀ j,(w.setCells b (a+k*7) c).frozen? ⟨b,j,none⟩=w.frozen? ⟨b,j,none⟩:=λj=>World.frozen?_setCells b c (a+k*7) w ⟨b,j,none⟩;generalize w.setCells b (a+k*7) c=t at *;exact ⟨⟨d.os,d.tape,d.output,d.size,d.block⟩,g,h,i,f⟩
 obtain ⟨d,f,g,h,i⟩:=key (Qag x) o;exact ⟨d,f,g,h,i⟩
theorem QaF.laid {w w':World} {b d k:Nat} {C:Nat->Cm} {x:Cm} (h:QaF w b d C) (f:QeD w b d k x w') (m:k<21):QaF w' b d (Jc C k x):=by
 intro j v a;have n:j<147:=by have:=(List.getElem?_eq_some_iff.1 a).1;rw [Qcx] at this;exact this
 obtain ⟨i,r,g,rfl⟩:∃ i r,r<7/\j=i*7+r:=⟨j / 7,j % 7,Nat.mod_lt _ (by omega),by omega⟩;have l:i<21:=by omega
 rw [QcS _ i r g 21 l] at a;by_cases e:i=k
 ·subst e;have c:Jc C i x i=x:=by unfold Jc;rw [if_pos rfl]
  rw [c] at a;rw [<- Nat.add_assoc];exact f.same r v a
 have c:Jc C k x i=C i:=by unfold Jc;rw [if_neg e]
 rw [c] at a;rw [f.rest _ (by omega)];exact h (i*7+r) v (by rw [QcS _ i r g 21 l];exact a)
theorem QuA (b a k:Nat) (p:Int) (C:Nat->Cm) (w:World) (h:QaF w b a C) (c:∀ j,w.frozen? ⟨b,j,none⟩=false) (u:k<21) (f:Bool) (l:p≠0->Calls Tryz.prog 184 #[.pointer (some ⟨b,a,none⟩),.int .i64 p] w λe w'=>e=.returned (.bool f)/\w'=w) (hb:QdV C k p f=true) (F:0<=(C k).gen/\(C k).gen<1000000) : Calls Tryz.prog 152 #[.pointer (some ⟨b,a,none⟩),.int .i64 k,.int .i64 p] w λe w'=>e=.returned (.tuple #[])/\QeD w b a k ⟨true,(C k).gen+1,p,0,0,0,none,0,0,[]⟩ w':=by
 obtain ⟨s,m,v,y,z,A,B⟩:=h.cm k u;have G:(0:Int)<=(k:Int):=by omega
 have H:(k:Int)<21:=by omega
 have I:IntKind.i64.wrap ((C k).gen+1)=(C k).gen+1:=by rw [IntKind.wrap_i64];omega
 unfold QdV at hb;rw [Bool.and_eq_true,Bool.not_eq_true'] at hb;obtain ⟨n,hb⟩:=hb;rw [n] at s
 have t:Hid (∀ x,QeD w b a k x (w.setCells b (a+k*7) (Qag x)).drew):=Qa (Ql9 (λr o=>by
  match r,o with
  | 0,_=>rw [Nat.add_zero,s];rfl
  | 1,_=>rw [m];rfl
  | 2,_=>rw [v];rfl
  | 3,_=>rw [y];rfl
  | 4,_=>rw [z];rfl
  | 5,_=>rw [A];rfl
  | 6,_=>rw [B];rfl) c)
 generalize (C k).gen=g at *;have J:=c (a+k*7);have K:=c (a+k*7+1);have L:=c (a+k*7+2);have M:=c (a+k*7+3);have N:=c (a+k*7+4);have O:=c (a+k*7+5);have P:=c (a+k*7+6);clear h c;by_cases d:p=0
 ·subst d;clear l hb n;go_enter Tryz.func152,Tryz.ntmps152;go_wp2_with fail;have i:(λw'=>w'.cell? ⟨b,a+k*7+1,none⟩=some (.int .i64 g)) w.drew:=m;refine Zm (S:=(λw'=>w'.cell? ⟨b,a+k*7+1,none⟩=some (.int .i64 g))) (by kernel_rfl) ?_;iterate 15
   apply Q0 ?_ i ?_;rotate_left
   ·(intro w' hSw;(try dsimp only at hSw);simp only [getElem_toArray,getElem_cons_zero,getElem_cons_succ];go_simp;try (with_reducible rfl))
   simp only [getElem_toArray,getElem_cons_zero,getElem_cons_succ,Act.put,setIfInBounds_toArray,set_cons_zero,set_cons_succ]
  refine Qq 15 ?_;simp only [getElem_toArray,getElem_cons_zero,getElem_cons_succ];go_simp;refine ⟨.inl (by kernel_rfl),Zk (by kernel_rfl) ?_ _⟩;go_wp2;refine bodyPost_end (results_none rfl _ _ _) rfl ?_;exact ⟨rfl,t.out ⟨true,g+1,0,0,0,0,none,0,0,[]⟩⟩
 have o:f=true:=by
  rcases Bool.or_eq_true _ _▸hb with e|e
  ·exact absurd (by simpa using e) d
  exact e
 subst o;have E:(p !=0)=true:=by simpa [bne] using d
 have D:=Qa (l d);clear l hb n d;go_enter Tryz.func152,Tryz.ntmps152;go_wp2_with (go_at_call 184;refine D.out.mono ?_;rintro e w1 ⟨rfl,q⟩;rw [q];clear q);have i:(λw'=>w'.cell? ⟨b,a+k*7+1,none⟩=some (.int .i64 g)) w.drew:=m;refine Zm (S:=(λw'=>w'.cell? ⟨b,a+k*7+1,none⟩=some (.int .i64 g))) (by kernel_rfl) ?_;iterate 15
  apply Q0 ?_ i ?_;rotate_left
  ·(intro w' hSw;(try dsimp only at hSw);simp only [getElem_toArray,getElem_cons_zero,getElem_cons_succ];go_simp;try (with_reducible rfl))
  simp only [getElem_toArray,getElem_cons_zero,getElem_cons_succ,Act.put,setIfInBounds_toArray,set_cons_zero,set_cons_succ]
 refine Qq 15 ?_;simp only [getElem_toArray,getElem_cons_zero,getElem_cons_succ];go_simp;refine ⟨.inl (by kernel_rfl),Zk (by kernel_rfl) ?_ _⟩;go_wp2;refine bodyPost_end (results_none rfl _ _ _) rfl ?_;exact ⟨rfl,t.out ⟨true,g+1,p,0,0,0,none,0,0,[]⟩⟩
def Qch (x:Cm):Cm:=⟨false,x.gen,0,0,0,0,none,0,0,[]⟩
def JB (f:(Nat->Cm)->Nat->(Nat->Cm)) (D:Nat->Cm) (k:Nat):Nat->(Nat->Cm)
 | 0=>D
 | i+1=>if ((D i).on&&(D i).par==(k:Int))=true then f (JB f D k i) i else JB f D k i
def J6:Nat->(Nat->Cm)->Nat->(Nat->Cm)
 | 0,C,_=>C
 | f+1,C,k=>JB (J6 f) (Jc C k (Qch (C k))) k 21
structure Qar (w:World) (b o:Nat) (C:Nat->Cm) (w':World):Prop where
 set:QaF w' b o C
 far:Qx (λy=>y=b) w w'
 rest:∀ j,j<o \/ o+147<=j->w'.cell? ⟨b,j,none⟩=w.cell? ⟨b,j,none⟩
 froz:∀ j,w'.frozen? ⟨b,j,none⟩=w.frozen? ⟨b,j,none⟩
theorem Qar.of_laid {w w':World} {b c k:Nat} {C:Nat->Cm} {x:Cm} (h:QaF w b c C) (a:QeD w b c k x w') (d:k<21):Qar w b c (Jc C k x) w' := ⟨h.laid a d,a.far,λj f=>a.rest j (by omega),a.froz⟩
theorem Qar.trans {w w1 w2:World} {b a:Nat} {C D:Nat->Cm} (h:Qar w b a C w1) (k:Qar w1 b a D w2) (_hb:b<w.heap.size):Qar w b a D w2 := ⟨k.set,h.far.trans (k.far.mono λ_ _ e=>.inl e),λj c=>(k.rest j c).trans (h.rest j c),λj=>(k.froz j).trans (h.froz j)⟩
theorem Qar.below {w w1 w2:World} {b c:Nat} {C:Nat->Cm} (h:Qar w b c C w1) (k:Below w1.heap.size w1 w2) (hb:b<w.heap.size):Qar w b c C w2:=by have a:b<w1.heap.size:=Nat.lt_of_lt_of_le hb h.far.size;exact ⟨λj v d=>(k.cell (p:=⟨b,c+j,none⟩) a).trans (h.set j v d),h.far.trans (.of_below k),λj f=>(k.cell (p:=⟨b,j,none⟩) a).trans (h.rest j f),λj=>(k.frozen (p:=⟨b,j,none⟩) a).trans (h.froz j)⟩
def Dp (C:Nat->Cm) (a:Nat->Nat):Prop:=∀ i,i<21->(C i).on=true->a i<5/\∀ p:Nat,(C i).par=p->0<p->a p<a i
def Qby (C D:Nat->Cm):Prop:=∀ i,(D i).on=true->D i=C i
theorem Qby.refl (C:Nat->Cm):Qby C C:=λ_ _=>rfl
theorem Qby.trans {C D b:Nat->Cm} (h:Qby C D) (k:Qby D b):Qby C b:=λi a=>by have e:=k i a;rw [e];exact h i (by rw [<- e];exact a)
theorem Qby.dp {C D:Nat->Cm} (h:Qby C D) {b:Nat->Nat} (c:Dp C b):Dp D b:=λi d a=>by have e:=h i a;rw [e] at a ⊢;exact c i d a
theorem Qh1 (C:Nat->Cm) (k:Nat):Qby C (Jc C k (Qch (C k))):=λi a=>by
 unfold Jc at a ⊢;by_cases e:i=k
 ·rw [if_pos e] at a;exact absurd a (by simp [Qch])
 rw [if_neg e]
theorem QeB {f:(Nat->Cm)->Nat->(Nat->Cm)} (a:∀ C k,Qby C (f C k)) (D:Nat->Cm) (k:Nat):∀ i,Qby D (JB f D k i)
 | 0=>.refl _
 | i+1=>by
  unfold JB;split
  ·exact (QeB a D k i).trans (a _ _)
  exact QeB a D k i
theorem Qhm:∀ f C k,Qby C (J6 f C k)| 0,_,_=>.refl _| f+1,C,k=>(Qh1 C k).trans (QeB (Qhm f) _ _ _)
theorem QuK (w:World) (b q:Nat) (a c d f g h i:Value):w.setCells b q [a,c,d,f,g,h,i]=((((((w.setCell ⟨b,q,none⟩ a).setCell ⟨b,q+1,none⟩ c).setCell ⟨b,q+2,none⟩ d).setCell ⟨b,q+3,none⟩ f).setCell ⟨b,q+4,none⟩ g).setCell ⟨b,q+5,none⟩ h).setCell ⟨b,q+6,none⟩ i:=rfl
theorem Qmk (C:Nat->Cm):(Tryz.prog.info? 106).map (·.size)=some (QaC C 21).length:=by rw [Qcx];kernel_rfl
theorem Qqs (b a:Nat) (u:Nat->Nat):∀ (f k:Nat) (C:Nat->Cm) (w:World),QaF w b a C->(∀ j,w.frozen? ⟨b,j,none⟩=false)->b<w.heap.size->k<21->0<k->u k<5->5<=f+u k->Dp C u->(∀ i,(C i).on=true->i≠0) -> Calls Tryz.prog 153 #[.pointer (some ⟨b,a,none⟩),.int .i64 k] w λe w'=>e=.returned (.tuple #[])/\Qar w b a (J6 f C k) w':=by
 intro f;induction f with
 | zero=>intro k C w _ _ _ _ _ G a0 _ _;exact absurd a0 (by omega)
 | succ f H =>
  intro k C w h c hb I V ac ad z J;obtain ⟨K,v,L,M,N,O,P⟩:=h.cm k I;have ae:(0:Int)<=(k:Int):=by omega
  have af:(k:Int)<21:=by omega
  have o:Hid (Qar w b a (Jc C k (Qch (C k))) (w.setCells b (a+k*7) (Qag (Qch (C k)))).drew):=Qa (Qar.of_laid h (Ql9 (λr a1=>by
   match r,a1 with
   | 0,_=>rw [Nat.add_zero,K];rfl
   | 1,_=>rw [v];rfl
   | 2,_=>rw [L];rfl
   | 3,_=>rw [M];rfl
   | 4,_=>rw [N];rfl
   | 5,_=>rw [O];rfl
   | 6,_=>rw [P];rfl) c (Qch (C k))) I)
  have y:=Qa (Qh1 C k);have A:=Qa z;have R:Hid (∀ i,(Jc C k (Qch (C k)) i).on=true->i≠0):=Qa λi l=>J i (by rw [<- Qh1 C k i l];exact l);have a2:=Qa c;have B:=Qa H;unfold J6;generalize Jc C k (Qch (C k))=D at *;have a3:=c (a+k*7);have a4:=c (a+k*7+1);have a5:=c (a+k*7+2);have a6:=c (a+k*7+3);have a7:=c (a+k*7+4);have a8:=c (a+k*7+5);have a9:=c (a+k*7+6);clear h c H z J;go_enter Tryz.func153,Tryz.ntmps153;have E:(λw'=>w'.cell? ⟨b,a+k*7+1,none⟩=some (.int .i64 (C k).gen)) w.drew:=v;go_wp2_with fail;refine Zm (S:=(λw'=>w'.cell? ⟨b,a+k*7+1,none⟩=some (.int .i64 (C k).gen))) (by kernel_rfl) ?_;iterate 13
   apply Q0 ?_ E ?_;rotate_left
   ·(intro w' hSw;(try dsimp only at hSw);simp only [getElem_toArray,getElem_cons_zero,getElem_cons_succ];go_simp;try (with_reducible rfl))
   simp only [getElem_toArray,getElem_cons_zero,getElem_cons_succ,Act.put,setIfInBounds_toArray,set_cons_zero,set_cons_succ]
  refine Qq 13 ?_;simp only [getElem_toArray,getElem_cons_zero,getElem_cons_succ];go_simp;refine Zk (by kernel_rfl) ?_ _;rw [show Qag (Qch (C k))=[.bool false,.int .i64 (C k).gen,.int .i64 0,.int .i64 0,.int .i64 0,.int .i64 0,.slice none 0 0] from rfl,QuK] at o;clear E K v L M N O P a3 a4 a5 a6 a7 a8 a9;generalize (((((((w.setCell ⟨b,a+k*7,none⟩ (.bool false)).setCell ⟨b,a+k*7+1,none⟩ (.int .i64 (C k).gen)).setCell ⟨b,a+k*7+2,none⟩ (.int .i64 0)).setCell ⟨b,a+k*7+3,none⟩ (.int .i64 0)).setCell ⟨b,a+k*7+4,none⟩ (.int .i64 0)).setCell ⟨b,a+k*7+5,none⟩ (.int .i64 0)).setCell ⟨b,a+k*7+6,none⟩ (.slice none 0 0)).drew=ag at *;have T:=Qa (Qmk D);go_wp2_with (first|(refine wpList_load_mid rfl 106 (.tmp 21) rfl b a rfl (QaC D 21) _ o.out.set Tryz.underlying106 rfl T.out ?_));go_loopw [23] (λi wr=>∃ m:Nat,m<=21/\i=.int .i64 m/\Hid (Qar w b a (JB (J6 f) D k m) wr)) (λi _=>21-(intOf i).toNat);·exact ⟨0,Nat.zero_le _,rfl,o⟩
  case round =>
   obtain ⟨m,ah,rfl,p⟩:=hrel;clear o T;by_cases s:m<21
   ·have F:∀ g:World,(Instr.index 106 (.agg (QaC D 21).toArray) (.int .i64 m)).run Tryz.prog g=.ok (.agg #[.bool (D m).on,.int .i64 (D m).gen,.int .i64 (D m).par,.int .i64 (D m).fa,.int .i64 (D m).fb,.int .i64 (D m).fc,.slice (D m).no (D m).nn (D m).nc]) g:=λg=>QmN D m s g;have ai:(m:Int)<21:=by omega
    cases d:(D m).on with
    | false =>
     rw [d] at F;have n:Hid (JB (J6 f) D k (m+1)=JB (J6 f) D k m):=Qa (by rw [JB,d,Bool.false_and,if_neg (by simp)]);clear d;go_wp2;go_roundw;·exact ⟨m+1,by omega,by go_num,Qa (by rw [n.out];exact p.out.below ((Below.refl _ _).alloc (Nat.le_refl _) _) hb)⟩
     simp [intOf];omega
    | true =>
     rw [d] at F;cases x:((D m).par==(k:Int)) with
     | false =>
      have n:Hid (JB (J6 f) D k (m+1)=JB (J6 f) D k m):=Qa (by rw [JB,d,x,Bool.and_false,if_neg (by simp)]);clear d;go_wp2;go_roundw;·exact ⟨m+1,by omega,by go_num,Qa (by rw [n.out];exact p.out.below ((Below.refl _ _).alloc (Nat.le_refl _) _) hb)⟩
      simp [intOf];omega
     | true =>
      have n:Hid (JB (J6 f) D k (m+1)=J6 f (JB (J6 f) D k m) m):=Qa (by rw [JB,d,x,Bool.and_self,if_pos rfl]);have U:(D m).par=(k:Int):=by simpa using x
      have t:=(y.out.dp A.out) m s d;have W:=t.2 k U V;have X:0<m:=by
       rcases Nat.eq_zero_or_pos m with e|e
       ·exact absurd e (R.out m d)
       exact e
      have aa:Hid (∀ g,Below wr.heap.size wr g->Calls Tryz.prog 153 #[.pointer (some ⟨b,a,none⟩),.int .i64 m] g λe w'=>e=.returned (.tuple #[])/\Qar w b a (J6 f (JB (J6 f) D k m) m) w'):=Qa λg ab=>by have q:=p.out.below ab hb;refine (B.out m _ g q.set (λj=>(q.froz j).trans (a2.out j)) (Nat.lt_of_lt_of_le hb q.far.size) s X t.1 (by omega) ((QeB (Qhm f) D k m).dp (y.out.dp A.out)) (λi l=>R.out i (by rw [<- QeB (Qhm f) D k m i l];exact l))).mono ?_;rintro e w' ⟨rfl,h⟩;exact ⟨rfl,q.trans h hb⟩
      clear d t W B;go_wp2_with (first|(go_at_call 153;refine (aa.out _ ((Below.refl _ _).alloc (Nat.le_refl _) _)).mono ?_;rintro e w1 ⟨rfl,G⟩));go_roundw;·exact ⟨m+1,by omega,by go_num,Qa (by rw [n.out];exact G)⟩
      simp [intOf];omega
   have Y:m=21:=by omega
   subst Y;go_wp2;refine bodyPost_end (results_none rfl _ _ _) rfl ?_;exact ⟨rfl,p.out⟩
structure Ac where
 kd:Int
 nm:Int
 pa:Int
 fl:Int
 n:Int
 m:Int
 deriving DecidableEq
def Ac.val (a:Ac):Value:=.agg #[.int .i64 a.kd,.int .i64 a.nm,.int .i64 a.pa,.int .i64 a.fl,.int .i64 a.n,.int .i64 a.m]
def Ac.need (a:Ac):Ac :=
 if a.kd=1 then ⟨a.kd,a.nm,a.pa,0,0,0⟩ else if a.kd=3 \/ a.kd=4 then ⟨a.kd,a.nm,0,a.fl,a.n,0⟩
 else if a.kd=5 \/ a.kd=6 then ⟨a.kd,a.nm,0,0,a.n,0⟩ else if a.kd=7 then ⟨a.kd,a.nm,0,0,a.n,a.m⟩
 else if a.kd=8 \/ a.kd=9 then ⟨a.kd,0,0,0,0,0⟩ else ⟨a.kd,a.nm,0,0,0,0⟩
def Ac.rest (a:Ac):Bool :=
 if a.kd=1 then decide (0<=a.pa)&&decide (a.pa<=20)&&a.pa !=a.nm else if a.kd=2 then true
 else if a.kd=3 \/ a.kd=4 then decide (1<=a.fl)&&decide (a.fl<=3) else if a.kd=5 \/ a.kd=6 then decide (0<=a.n)&&decide (a.n<=30)
 else if a.kd=7 then decide (0<=a.n)&&decide (0<=a.m) else false
def Ac.may (a:Ac):Bool:=a==a.need&&(a.kd==8||a.kd==9||(decide (1<=a.nm)&&decide (a.nm<=20)&&a.rest))
theorem QdO (n l m:Int) (w:World):Calls Tryz.prog 70 #[.int .i64 n,.int .i64 l,.int .i64 m] w λe w'=>e=.returned (.bool (decide (l<=n)&&decide (n<=m)))/\w'=w:=by
 by_cases a:l<=n
 ·by_cases b:n<=m
  ·rw [decide_eq_true a,decide_eq_true b];go_enter Tryz.func70,Tryz.ntmps70;go_wp2;go_ret;exact ⟨rfl,rfl⟩
  rw [decide_eq_true a,decide_eq_false b];go_enter Tryz.func70,Tryz.ntmps70;go_wp2;go_ret;exact ⟨rfl,rfl⟩
 rw [decide_eq_false a];go_enter Tryz.func70,Tryz.ntmps70;go_wp2;go_ret;exact ⟨rfl,rfl⟩
theorem QqP (a:Ac) (w:World):Calls Tryz.prog 69 #[a.val] w λe w'=>e=.returned a.need.val/\Below w.heap.size w w':=by
 obtain ⟨b,nm,pa,l,n,m⟩:=a;unfold Ac.val Ac.need;by_cases c:b=1
 ·subst c;simp (decide:=true) only [if_true,if_false];go_enter Tryz.func69,Tryz.ntmps69;go_wp2;go_returns;exact ⟨rfl,(((Below.refl _ _).alloc (Nat.le_refl _) _).alloc (by simp) _).alloc (by simp;omega) _⟩
 by_cases d:b=3
 ·subst d;simp (decide:=true) only [if_true,if_false];go_enter Tryz.func69,Tryz.ntmps69;go_wp2;go_region;all_goals go_wp2
  all_goals go_returns
  all_goals exact ⟨rfl,((((Below.refl _ _).alloc (Nat.le_refl _) _).alloc (by simp) _).alloc (by simp;omega) _).drew⟩
 by_cases f:b=4
 ·subst f;simp (decide:=true) only [if_true,if_false];go_enter Tryz.func69,Tryz.ntmps69;go_wp2;go_region;all_goals go_wp2
  all_goals go_returns
  all_goals exact ⟨rfl,((((Below.refl _ _).alloc (Nat.le_refl _) _).alloc (by simp) _).alloc (by simp;omega) _).drew⟩
 by_cases g:b=5
 ·subst g;simp (decide:=true) only [if_true,if_false];go_enter Tryz.func69,Tryz.ntmps69;go_wp2;go_returns;exact ⟨rfl,(((Below.refl _ _).alloc (Nat.le_refl _) _).alloc (by simp) _).alloc (by simp;omega) _⟩
 by_cases h:b=6
 ·subst h;simp (decide:=true) only [if_true,if_false];go_enter Tryz.func69,Tryz.ntmps69;go_wp2;go_returns;exact ⟨rfl,(((Below.refl _ _).alloc (Nat.le_refl _) _).alloc (by simp) _).alloc (by simp;omega) _⟩
 by_cases i:b=7
 ·subst i;simp (decide:=true) only [if_true,if_false];go_enter Tryz.func69,Tryz.ntmps69;go_wp2;go_region;all_goals go_wp2
  all_goals go_returns
  all_goals exact ⟨rfl,((((Below.refl _ _).alloc (Nat.le_refl _) _).alloc (by simp) _).alloc (by simp;omega) _).drew⟩
 by_cases j:b=8
 ·subst j;simp (decide:=true) only [if_true,if_false];go_enter Tryz.func69,Tryz.ntmps69;go_wp2;go_returns;exact ⟨rfl,(((Below.refl _ _).alloc (Nat.le_refl _) _).alloc (by simp) _).alloc (by simp;omega) _⟩
 by_cases k:b=9
 ·subst k;simp (decide:=true) only [if_true,if_false];go_enter Tryz.func69,Tryz.ntmps69;go_wp2;go_returns;exact ⟨rfl,(((Below.refl _ _).alloc (Nat.le_refl _) _).alloc (by simp) _).alloc (by simp;omega) _⟩
 simp only [c,d,f,g,h,i,j,k,or_self,if_false];go_enter Tryz.func69,Tryz.ntmps69;go_wp2;go_returns;exact ⟨rfl,(((Below.refl _ _).alloc (Nat.le_refl _) _).alloc (by simp) _).alloc (by simp;omega) _⟩
theorem QnR (a:Ac) (w:World):Calls Tryz.prog 71 #[a.val] w λe w'=>e=.returned (.bool a.rest)/\Below w.heap.size w w':=by
 obtain ⟨d,nm,pa,c,n,m⟩:=a;unfold Ac.val Ac.rest;by_cases g:d=1
 ·subst g;simp (decide:=true) only [if_true,if_false];have b:Hid (∀ w1,Calls Tryz.prog 70 #[.int .i64 pa,.int .i64 0,.int .i64 20] w1 λe w'=>e=.returned (.bool (decide (0<=pa)&&decide (pa<=20)))/\w'=w1):=Qa (QdO pa 0 20);cases f:(decide (0<=pa)&&decide (pa<=20)) with
  | true =>rw [f] at b;rw [Bool.true_and];clear f;go_enter Tryz.func71,Tryz.ntmps71;go_wp2_with (go_at_call 70;refine (b.out _).mono ?_;rintro e w1 ⟨rfl,rfl⟩);go_ret;exact ⟨rfl,(Below.refl _ _).alloc (Nat.le_refl _) _⟩
  | false =>rw [f] at b;rw [Bool.false_and];clear f;go_enter Tryz.func71,Tryz.ntmps71;go_wp2_with (go_at_call 70;refine (b.out _).mono ?_;rintro e w1 ⟨rfl,rfl⟩);go_ret;exact ⟨rfl,(Below.refl _ _).alloc (Nat.le_refl _) _⟩
 by_cases h:d=2
 ·subst h;simp (decide:=true) only [if_true,if_false];go_enter Tryz.func71,Tryz.ntmps71;go_wp2;go_ret;exact ⟨rfl,(Below.refl _ _).alloc (Nat.le_refl _) _⟩
 by_cases i:d=3
 ·subst i;simp (decide:=true) only [if_true,if_false];have b:Hid (∀ w1,Calls Tryz.prog 70 #[.int .i64 c,.int .i64 1,.int .i64 3] w1 λe w'=>e=.returned (.bool (decide (1<=c)&&decide (c<=3)))/\w'=w1):=Qa (QdO c 1 3);go_enter Tryz.func71,Tryz.ntmps71;go_wp2_with (go_at_call 70;refine (b.out _).mono ?_;rintro e w1 ⟨rfl,rfl⟩);go_ret;exact ⟨rfl,(Below.refl _ _).alloc (Nat.le_refl _) _⟩
 by_cases j:d=4
 ·subst j;simp (decide:=true) only [if_true,if_false];have b:Hid (∀ w1,Calls Tryz.prog 70 #[.int .i64 c,.int .i64 1,.int .i64 3] w1 λe w'=>e=.returned (.bool (decide (1<=c)&&decide (c<=3)))/\w'=w1):=Qa (QdO c 1 3);go_enter Tryz.func71,Tryz.ntmps71;go_wp2_with (go_at_call 70;refine (b.out _).mono ?_;rintro e w1 ⟨rfl,rfl⟩);go_ret;exact ⟨rfl,(Below.refl _ _).alloc (Nat.le_refl _) _⟩
 by_cases k:d=5
 ·subst k;simp (decide:=true) only [if_true,if_false];have b:Hid (∀ w1,Calls Tryz.prog 70 #[.int .i64 n,.int .i64 0,.int .i64 30] w1 λe w'=>e=.returned (.bool (decide (0<=n)&&decide (n<=30)))/\w'=w1):=Qa (QdO n 0 30);go_enter Tryz.func71,Tryz.ntmps71;go_wp2_with (go_at_call 70;refine (b.out _).mono ?_;rintro e w1 ⟨rfl,rfl⟩);go_ret;exact ⟨rfl,(Below.refl _ _).alloc (Nat.le_refl _) _⟩
 by_cases l:d=6
 ·subst l;simp (decide:=true) only [if_true,if_false];have b:Hid (∀ w1,Calls Tryz.prog 70 #[.int .i64 n,.int .i64 0,.int .i64 30] w1 λe w'=>e=.returned (.bool (decide (0<=n)&&decide (n<=30)))/\w'=w1):=Qa (QdO n 0 30);go_enter Tryz.func71,Tryz.ntmps71;go_wp2_with (go_at_call 70;refine (b.out _).mono ?_;rintro e w1 ⟨rfl,rfl⟩);go_ret;exact ⟨rfl,(Below.refl _ _).alloc (Nat.le_refl _) _⟩
 by_cases o:d=7
 ·subst o;simp (decide:=true) only [if_true,if_false];by_cases p:0<=n
  ·rw [decide_eq_true p,Bool.true_and];go_enter Tryz.func71,Tryz.ntmps71;go_wp2;go_ret;exact ⟨by simp,(Below.refl _ _).alloc (Nat.le_refl _) _⟩
  rw [decide_eq_false p,Bool.false_and];go_enter Tryz.func71,Tryz.ntmps71;go_wp2;go_ret;exact ⟨rfl,(Below.refl _ _).alloc (Nat.le_refl _) _⟩
 simp only [g,h,i,j,k,l,o,or_self,if_false];go_enter Tryz.func71,Tryz.ntmps71;go_wp2;go_ret;exact ⟨rfl,(Below.refl _ _).alloc (Nat.le_refl _) _⟩
structure Pc where
 on:Bool
 gen:Int
 par:Int
 fa:Int
 fb:Int
 fc:Int
 ns:List Int
def Cm.pc (x:Cm):Pc:=⟨x.on,x.gen,x.par,x.fa,x.fb,x.fc,x.ns⟩
def Qh (C:Nat->Cm):Nat->Pc:=λi=>(C i).pc
def Zu (C:Nat->Pc) (k:Nat) (x:Pc):Nat->Pc:=λi=>if i=k then x else C i
theorem Qb8 (C:Nat->Pc) (k:Nat) (x:Pc):Zu C k x k=x:=by unfold Zu;rw [if_pos rfl]
theorem QaI (C:Nat->Pc) {k i:Nat} (x:Pc) (h:i≠k):Zu C k x i=C i:=by unfold Zu;rw [if_neg h]
theorem Qdt (C:Nat->Cm) (k:Nat) (x:Cm):Qh (Jc C k x)=Zu (Qh C) k x.pc:=by funext i;unfold Qh Jc Zu;split<;>rfl
def QbK (C:Nat->Pc):Nat->Int->Nat
 | 0,_=>0
 | f+1,p=>if p=0 then 0 else QbK C f (C p.toNat).par+1
def QbH (x:Pc):Pc:=⟨false,x.gen,0,0,0,0,[]⟩
def Qbm (f:(Nat->Pc)->Nat->(Nat->Pc)) (D:Nat->Pc) (k:Nat):Nat->(Nat->Pc)
 | 0=>D
 | i+1=>if ((D i).on&&(D i).par==(k:Int))=true then f (Qbm f D k i) i else Qbm f D k i
def QaD:Nat->(Nat->Pc)->Nat->(Nat->Pc)
 | 0,C,_=>C
 | f+1,C,k=>Qbm (QaD f) (Zu C k (QbH (C k))) k 21
theorem Qhf {f:(Nat->Cm)->Nat->(Nat->Cm)} {g:(Nat->Pc)->Nat->(Nat->Pc)} (h:∀ C k,Qh (f C k)=g (Qh C) k) (D:Nat->Cm) (k:Nat):∀ i,Qh (JB f D k i)=Qbm g (Qh D) k i
 | 0=>rfl
 | i+1=>by
  unfold JB Qbm;show Qh (if ((D i).on&&(D i).par==(k:Int))=true then _ else _)=if ((D i).on&&(D i).par==(k:Int))=true then _ else _;split
  ·rw [h,Qhf h D k i]
  exact Qhf h D k i
theorem Qlp:∀ f C k,Qh (J6 f C k)=QaD f (Qh C) k| 0,_,_=>rfl| f+1,C,k=>by unfold J6 QaD;rw [Qhf (Qlp f),Qdt];rfl
def Qad (l:List Int) (i j:Nat):List Int:=(l.set i (l.getD j 0)).set j (l.getD i 0)
def QcG (C:Nat->Pc) (a:Ac) (g:Int):Nat->Pc :=
 let k:=a.nm.toNat
 let x:=C k
 if a.kd=1 then
  if !x.on&&(a.pa==0||((C a.pa.toNat).on&&decide (QbK C 5 (C a.pa.toNat).par+1<5))) then Zu C k ⟨true,x.gen+1,a.pa,0,0,0,[]⟩ else C
 else if x.on&&x.gen==g then
  if a.kd=2 then QaD 5 C k
  else if a.kd=3 then Zu C k { x with fa:=if a.fl=1 then a.n else x.fa,fb:=if a.fl=2 then a.n else x.fb,fc:=if a.fl=3 then a.n else x.fc }
  else if a.kd=4 then Zu C k { x with fa:=if a.fl=1 then IntKind.i64.wrap (x.fa+a.n) else x.fa,fb:=if a.fl=2 then IntKind.i64.wrap (x.fb+a.n) else x.fb,fc:=if a.fl=3 then IntKind.i64.wrap (x.fc+a.n) else x.fc }
  else if a.kd=5 then if !x.ns.contains a.n&&decide (x.ns.length<8) then Zu C k { x with ns:=x.ns++[a.n] } else C
  else if a.kd=6 then Zu C k { x with ns:=x.ns.erase a.n }
  else if x.ns.length=0 then C else Zu C k { x with ns:=Qad x.ns (Int.tmod a.n x.ns.length).toNat (Int.tmod a.m x.ns.length).toNat }
 else C
structure Deep (C:Nat->Pc) (dp:Nat->Nat):Prop where
 five:∀ i,(C i).on=true->dp i<5
 up:∀ i,(C i).on=true->((C i).par=0/\dp i=0) \/ ∃ p:Nat,0<p/\p<21/\(C i).par=p/\(C p).on=true/\dp i=dp p+1
structure QY (N:Int) (C:Nat->Pc):Prop where
 zero:(C 0).on=false
 out:∀ i,21<=i->(C i).on=false
 gen:∀ i,0<=(C i).gen/\(C i).gen<=N
 few:∀ i,(C i).ns.length<=8
 nodup:∀ i,(C i).ns.Nodup
 nums:∀ i x,x ∈ (C i).ns->0<=x/\x<=30
 flds:∀ i,Qg (C i).fa/\Qg (C i).fb/\Qg (C i).fc
 deep:∃ dp,Deep C dp
theorem Deep.above {C:Nat->Pc} {a:Nat->Nat} (h:Deep C a):∀ (f i:Nat),(C i).on=true->a i<=f->QbK C f (C i).par=a i
 | 0,i,hi,hf=>by unfold QbK;omega
 | f+1,i,hi,hf=>by
  unfold QbK;rcases h.up i hi with ⟨b,c⟩|⟨p,k,l,d,g,j⟩
  ·rw [if_pos b,c]
  rw [if_neg (by omega),d,Int.toNat_natCast,h.above f p g (by omega),j]
def QcY (C D:Nat->Pc):Prop:=∀ i,(D i).on=true->D i=C i
theorem QcY.trans {C D b:Nat->Pc} (h:QcY C D) (k:QcY D b):QcY C b:=λi a=>by have e:=k i a;rw [e];exact h i (by rw [<- e];exact a)
theorem QjG (C:Nat->Pc) (k:Nat):QcY C (Zu C k (QbH (C k))):=λi a=>by
 by_cases e:i=k
 ·subst e;rw [Qb8] at a;cases a
 rw [QaI _ _ e]
theorem Qfj {f:(Nat->Pc)->Nat->(Nat->Pc)} (a:∀ C k,QcY C (f C k)) (D:Nat->Pc) (k:Nat):∀ i,QcY D (Qbm f D k i)
 | 0=>λ_ _=>rfl
 | i+1=>by
  unfold Qbm;split
  ·exact (Qfj a D k i).trans (a _ _)
  exact Qfj a D k i
theorem Qgi:∀ f C k,QcY C (QaD f C k)| 0,_,_=>λ_ _=>rfl| f+1,C,k=>(QjG C k).trans (Qfj (Qgi f) _ _ _)
def Qb3 (C D:Nat->Pc):Prop:=∀ i,D i=C i \/ D i=QbH (C i)
theorem Qb3.trans {C D b:Nat->Pc} (h:Qb3 C D) (k:Qb3 D b):Qb3 C b:=λi=>by
 rcases k i with e|e
 ·rw [e];exact h i
 rcases h i with a|a
 ·rw [e,a];exact .inr rfl
 rw [e,a];exact .inr rfl
theorem Qt8 (C:Nat->Pc) (k:Nat):Qb3 C (Zu C k (QbH (C k))):=λi=>by
 by_cases e:i=k
 ·subst e;rw [Qb8];exact .inr rfl
 rw [QaI _ _ e];exact .inl rfl
theorem QfA {f:(Nat->Pc)->Nat->(Nat->Pc)} (a:∀ C k,Qb3 C (f C k)) (D:Nat->Pc) (k:Nat):∀ i,Qb3 D (Qbm f D k i)
 | 0=>λ_=>.inl rfl
 | i+1=>by
  unfold Qbm;split
  ·exact (QfA a D k i).trans (a _ _)
  exact QfA a D k i
theorem Qij:∀ f C k,Qb3 C (QaD f C k)| 0,_,_=>λ_=>.inl rfl| f+1,C,k=>(Qt8 C k).trans (QfA (Qij f) _ _ _)
theorem Qb3.off {C D:Nat->Pc} (h:Qb3 C D) {i:Nat} (a:(C i).on=false):(D i).on=false:=by
 rcases h i with e|e
 ·rw [e];exact a
 rw [e];rfl
theorem QrE (f:Nat) (C:Nat->Pc) (k:Nat):(QaD (f+1) C k k).on=false:=by unfold QaD;exact (QfA (Qij f) _ _ _).off (by rw [Qb8];rfl)
def QfJ (C:Nat->Pc) (a:Nat->Prop):Prop:=∀ i,i<21->(C i).on=true->(C i).par=0 \/ (∃ p:Nat,0<p/\p<21/\(C i).par=p/\(C p).on=true) \/ a i
theorem QkR (d:Nat->Nat):∀ (f k:Nat) (C:Nat->Pc) (g:Nat->Prop),(C 0).on=false->(∀ i,(C i).on=true->d i<5/\∀ p:Nat,(C i).par=p->0<p->d i=d p+1)->0<k->k<21->d k<5->5<=f+d k->QfJ C g->QfJ (QaD f C k) g
 | 0,k,C,g,_,_,_,_,h5,h6,_=>by omega
 | f+1,k,C,g,hz,hd,h0,h21,h5,h6,h=>by
  unfold QaD;have j:=QjG C k;have z:(Zu C k (QbH (C k)) k).on=false:=by rw [Qb8];rfl
  have A:QfJ (Zu C k (QbH (C k))) (λi=>g i \/ (C i).par=k):=λi c b=>by
   have e:=j i b;have L:i≠k:=λo=>by rw [o,z] at b;cases b
   rw [e] at b ⊢;rcases h i c b with a|⟨p,B,E,s,F⟩|a
   ·exact .inl a
   ·by_cases l:p=k
    ·exact .inr (.inr (.inr (by rw [s,l])))
    exact .inr (.inl ⟨p,B,E,s,by rw [QaI _ _ l];exact F⟩)
   exact .inr (.inr (.inl a))
  generalize Zu C k (QbH (C k))=D at *;have key:∀ m,m<=21->QfJ (Qbm (QaD f) D k m) (λi=>g i \/ ((C i).par=k/\m<=i)):=by
   intro m;induction m with
   | zero=>exact λ_ i c b=>(A i c b).imp_right (Or.imp_right (Or.imp_right λe=>⟨e,Nat.zero_le _⟩))
   | succ m ih =>
    intro M;have ih:=ih (by omega);have t:=j.trans (Qfj (Qgi f) D k m);unfold Qbm;split
    ·rename_i hc;simp only [Bool.and_eq_true,beq_iff_eq] at hc;obtain ⟨u,G⟩:=hc;have v:=j m u;have q:(C m).on=true:=by rw [<- v];exact u
     have H:(C m).par=(k:Int):=by rw [<- v];exact G
     obtain ⟨I,J⟩:=hd m q;have N:=J k H h0;have y:0<m:=by
      rcases Nat.eq_zero_or_pos m with e|e
      ·subst e;rw [hz] at q;cases q
      exact e
     have K:=QkR d f m (Qbm (QaD f) D k m) _ (Bool.eq_false_iff.2 λe=>by rw [t 0 e,hz] at e;cases e) (λi c=>by have e:=t i c;rw [e] at c ⊢;exact hd i c) y (by omega) I (by omega) ih;obtain ⟨x,rfl⟩:∃ x,f=x+1:=⟨f-1,by omega⟩;intro i c b;rcases K i c b with a|a|a|⟨n,r⟩
     ·exact .inl a
     ·exact .inr (.inl a)
     ·exact .inr (.inr (.inl a))
     refine .inr (.inr (.inr ⟨n,?_⟩));rcases Nat.eq_or_lt_of_le r with e|e
     ·rw [<- e,QrE] at b;cases b
     exact e
    rename_i hc;intro i c b;rcases ih i c b with a|a|a|⟨n,r⟩
    ·exact .inl a
    ·exact .inr (.inl a)
    ·exact .inr (.inr (.inl a))
    refine .inr (.inr (.inr ⟨n,?_⟩));rcases Nat.eq_or_lt_of_le r with e|e
    ·exfalso;subst e;have o:=Qfj (Qgi f) D k m m b;apply hc;rw [o] at b;have l:=j m b;rw [b,l,n];simp
    exact e
  intro i c b;rcases key 21 (Nat.le_refl _) i c b with a|a|a|⟨_,a⟩
  ·exact .inl a
  ·exact .inr (.inl a)
  ·exact .inr (.inr a)
  omega
theorem Qdw (l:List Int) (i j:Nat):(Qad l i j).length=l.length:=by unfold Qad;simp
theorem QfU (l:List Int) {i j:Nat} (d:i<l.length) (f:j<l.length) (t:Nat) (a:t<l.length):(Qad l i j)[t]?=some (if t=j then l[i] else if t=i then l[j] else l[t]):=by
 unfold Qad;rw [getElem?_set,getElem?_set];have g:l.getD i 0=l[i]:=by rw [getD_eq_getElem?_getD,getElem?_eq_getElem d];rfl
 have h:l.getD j 0=l[j]:=by rw [getD_eq_getElem?_getD,getElem?_eq_getElem f];rfl
 rw [g,h,length_set];by_cases b:t=j
 ·subst b;rw [if_pos rfl,if_pos a,if_pos rfl]
 rw [if_neg (λe=>b e.symm),if_neg b];by_cases c:t=i
 ·subst c;rw [if_pos rfl,if_pos a,if_pos rfl]
 rw [if_neg (λe=>c e.symm),if_neg c,getElem?_eq_getElem a]
theorem QkN (l:List Int) {i j:Nat} (b:i<l.length) (c:j<l.length) (x:Int):x ∈ Qad l i j↔x ∈ l:=by
 constructor
 ·intro h;obtain ⟨t,a,rfl⟩:=getElem_of_mem h;rw [Qdw] at a;have e:=QfU l b c t a;rw [getElem?_eq_getElem (by rw [Qdw];exact a)] at e;rw [Option.some.inj e];split
  ·exact getElem_mem _
  split<;>exact getElem_mem _
 intro h;obtain ⟨t,a,rfl⟩:=getElem_of_mem h;have key:∀ s,s<l.length->(if s=j then l[i] else if s=i then l[j] else l.getD s 0)=l[t]->l[t] ∈ Qad l i j:=λs f e=>by
  have g:=QfU l b c s f;have n:l.getD s 0=l[s]:=by rw [getD_eq_getElem?_getD,getElem?_eq_getElem f];rfl
  rw [n] at e;rw [e] at g;exact mem_of_getElem? g
 by_cases d:t=i
 ·subst d;exact key j c (by rw [if_pos rfl])
 by_cases k:t=j
 ·subst k;by_cases m:i=t
  ·exact absurd m.symm d
  exact key i b (by rw [if_neg m,if_pos rfl])
 exact key t a (by rw [if_neg k,if_neg d,getD_eq_getElem?_getD,getElem?_eq_getElem a];rfl)
theorem Qso (l:List Int) {i j:Nat} (f:i<l.length) (g:j<l.length) (h:l.Nodup):(Qad l i j).Nodup:=by
 unfold List.Nodup at h ⊢;rw [pairwise_iff_getElem] at h ⊢;have n:∀ a b,(c:a<l.length)->(hb:b<l.length)->l[a]=l[b]->a=b:=λa b c hb e=>by
  rcases Nat.lt_trichotomy a b with d|d|d
  ·exact absurd e (h a b c hb d)
  ·exact d
  exact absurd e.symm (h b a hb c d)
 intro a b c hb o e;rw [Qdw] at c hb;have k:=QfU l f g a c;have m:=QfU l f g b hb;rw [getElem?_eq_getElem (by rw [Qdw];exact c)] at k;rw [getElem?_eq_getElem (by rw [Qdw];exact hb)] at m;rw [Option.some.inj k,Option.some.inj m] at e;(repeat' split at e)<;>(have:=n _ _ _ _ e;omega)
end Go.Proofs.YtobgcaemnpkbmaaGreatDoor
