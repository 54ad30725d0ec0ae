import Derived.Test.YtobgcaemnpkbmaaGreatDoorC31
import Derived.Test.YtobgcaemnpkbmaaGreatDoorC08
namespace Go.Proofs.YtobgcaemnpkbmaaGreatDoor
set_option maxRecDepth 100000
set_option maxHeartbeats 8000000
open Go.RowKit List
theorem QgY (x:Int):IntKind.i64.wrap x=wrap64 x:=by rw [IntKind.wrap_i64];unfold wrap64;rfl
theorem QrM (b a k:Nat) (pa f n m g:Int) (w:World) (c:World->Prop) (h:Hid (∀ d,Below w.heap.size w d->Calls Tryz.prog 152 #[.pointer (some ⟨b,a,none⟩),.int .i64 k,.int .i64 pa] d λe w'=>e=.returned (.tuple #[])/\c w')) : Calls Tryz.prog 111 #[.pointer (some ⟨b,a,none⟩),.agg #[.int .i64 1,.int .i64 k,.int .i64 pa,.int .i64 f,.int .i64 n,.int .i64 m],.int .i64 g] w λe w'=>e=.returned (.tuple #[])/\c w':=by go_enter Tryz.func111,Tryz.ntmps111;go_wp2_with (first|(go_at_call 152;refine (h.out _ ((Below.refl _ _).alloc (Nat.le_refl _) _)).mono ?_;rintro e w1 ⟨rfl,i⟩));refine bodyPost_ret (results_none rfl _ _ _) rfl ?_;exact ⟨rfl,i⟩
theorem QoK (b f k:Nat) (h pa i n m g a:Int) (c:Bool) (w:World) (l:k<21) (o:w.cell? ⟨b,f+k*7,none⟩=some (.bool c)) (p:w.cell? ⟨b,f+k*7+1,none⟩=some (.int .i64 a)) (hb:b<w.heap.size) (j:(h==1)=false) (d:(c&&a==g)=false) : Calls Tryz.prog 111 #[.pointer (some ⟨b,f,none⟩),.agg #[.int .i64 h,.int .i64 k,.int .i64 pa,.int .i64 i,.int .i64 n,.int .i64 m],.int .i64 g] w λe w'=>e=.returned (.tuple #[])/\Below w.heap.size w w':=by
 have q:(0:Int)<=(k:Int):=by omega
 have r:(k:Int)<21:=by omega
 cases c with
 | false =>clear d;go_enter Tryz.func111,Tryz.ntmps111;go_wp2;go_big_quiet (fail);go_wp2;refine bodyPost_ret (results_none rfl _ _ _) rfl ?_;exact ⟨rfl,QL ((Below.refl _ _).alloc (Nat.le_refl _) _) _⟩
 | true =>
  have s:(a !=g)=true:=by simpa [bne] using d
  clear d;go_enter Tryz.func111,Tryz.ntmps111;go_wp2;go_big_quiet (fail);go_wp2;refine bodyPost_ret (results_none rfl _ _ _) rfl ?_;exact ⟨rfl,QL ((Below.refl _ _).alloc (Nat.le_refl _) _) _⟩
theorem Qr5 (b a k:Nat) (pa f n m g:Int) (w:World) (j:k<21) (l:w.cell? ⟨b,a+k*7,none⟩=some (.bool true)) (o:w.cell? ⟨b,a+k*7+1,none⟩=some (.int .i64 g)) (hb:b<w.heap.size) (c:World->Prop) (h:Hid (∀ d,Below w.heap.size w d->Calls Tryz.prog 153 #[.pointer (some ⟨b,a,none⟩),.int .i64 k] d λe w'=>e=.returned (.tuple #[])/\c w')) : Calls Tryz.prog 111 #[.pointer (some ⟨b,a,none⟩),.agg #[.int .i64 2,.int .i64 k,.int .i64 pa,.int .i64 f,.int .i64 n,.int .i64 m],.int .i64 g] w λe w'=>e=.returned (.tuple #[])/\c w':=by
 have p:(0:Int)<=(k:Int):=by omega
 have q:(k:Int)<21:=by omega
 go_enter Tryz.func111,Tryz.ntmps111;go_wp2;go_big_quiet (fail);go_wp2_with (first|(go_at_call 153;refine (h.out _ (QL ((Below.refl _ _).alloc (Nat.le_refl _) _) _)).mono ?_;rintro e w1 ⟨rfl,i⟩));refine bodyPost_end (results_none rfl _ _ _) rfl ?_;exact ⟨rfl,i⟩
theorem Qm4 (b a k:Nat) (pa f n m g:Int) (w:World) (j:k<21) (l:w.cell? ⟨b,a+k*7,none⟩=some (.bool true)) (o:w.cell? ⟨b,a+k*7+1,none⟩=some (.int .i64 g)) (hb:b<w.heap.size) (c:World->Prop) (h:Hid (∀ d,Below w.heap.size w d->Calls Tryz.prog 154 #[.pointer (some ⟨b,a+k*7,none⟩),.int .i64 n] d λe w'=>e=.returned (.tuple #[])/\c w')) : Calls Tryz.prog 111 #[.pointer (some ⟨b,a,none⟩),.agg #[.int .i64 5,.int .i64 k,.int .i64 pa,.int .i64 f,.int .i64 n,.int .i64 m],.int .i64 g] w λe w'=>e=.returned (.tuple #[])/\c w':=by
 have p:(0:Int)<=(k:Int):=by omega
 have q:(k:Int)<21:=by omega
 go_enter Tryz.func111,Tryz.ntmps111;go_wp2;go_big_quiet (fail);go_wp2_with (first|(go_at_call 154;refine (h.out _ (QL ((Below.refl _ _).alloc (Nat.le_refl _) _) _)).mono ?_;rintro e w1 ⟨rfl,i⟩));refine bodyPost_end (results_none rfl _ _ _) rfl ?_;exact ⟨rfl,i⟩
theorem QnZ (b a k:Nat) (pa f n m g:Int) (w:World) (j:k<21) (l:w.cell? ⟨b,a+k*7,none⟩=some (.bool true)) (o:w.cell? ⟨b,a+k*7+1,none⟩=some (.int .i64 g)) (hb:b<w.heap.size) (c:World->Prop) (h:Hid (∀ d,Below w.heap.size w d->Calls Tryz.prog 155 #[.pointer (some ⟨b,a+k*7,none⟩),.int .i64 n] d λe w'=>e=.returned (.tuple #[])/\c w')) : Calls Tryz.prog 111 #[.pointer (some ⟨b,a,none⟩),.agg #[.int .i64 6,.int .i64 k,.int .i64 pa,.int .i64 f,.int .i64 n,.int .i64 m],.int .i64 g] w λe w'=>e=.returned (.tuple #[])/\c w':=by
 have p:(0:Int)<=(k:Int):=by omega
 have q:(k:Int)<21:=by omega
 go_enter Tryz.func111,Tryz.ntmps111;go_wp2;go_big_quiet (fail);go_wp2_with (first|(go_at_call 155;refine (h.out _ (QL ((Below.refl _ _).alloc (Nat.le_refl _) _) _)).mono ?_;rintro e w1 ⟨rfl,i⟩));refine bodyPost_end (results_none rfl _ _ _) rfl ?_;exact ⟨rfl,i⟩
theorem Qpv (b a k:Nat) (pa f n m g:Int) (w:World) (j:k<21) (l:w.cell? ⟨b,a+k*7,none⟩=some (.bool true)) (o:w.cell? ⟨b,a+k*7+1,none⟩=some (.int .i64 g)) (hb:b<w.heap.size) (c:World->Prop) (h:Hid (∀ d,Below w.heap.size w d->Calls Tryz.prog 156 #[.pointer (some ⟨b,a+k*7,none⟩),.int .i64 n,.int .i64 m] d λe w'=>e=.returned (.tuple #[])/\c w')) : Calls Tryz.prog 111 #[.pointer (some ⟨b,a,none⟩),.agg #[.int .i64 7,.int .i64 k,.int .i64 pa,.int .i64 f,.int .i64 n,.int .i64 m],.int .i64 g] w λe w'=>e=.returned (.tuple #[])/\c w':=by
 have p:(0:Int)<=(k:Int):=by omega
 have q:(k:Int)<21:=by omega
 go_enter Tryz.func111,Tryz.ntmps111;go_wp2;go_big_quiet (fail);go_wp2_with (first|(go_at_call 156;refine (h.out _ (QL ((Below.refl _ _).alloc (Nat.le_refl _) _) _)).mono ?_;rintro e w1 ⟨rfl,i⟩));refine bodyPost_end (results_none rfl _ _ _) rfl ?_;exact ⟨rfl,i⟩
theorem QuB (b a k:Nat) (pa n m g v:Int) (w:World) (d:k<21) (f:w.cell? ⟨b,a+k*7,none⟩=some (.bool true)) (h:w.cell? ⟨b,a+k*7+1,none⟩=some (.int .i64 g)) (i:w.cell? ⟨b,a+k*7+3,none⟩=some (.int .i64 v)) (j:w.frozen? ⟨b,a+k*7+3,none⟩=false) (hb:b<w.heap.size) : Calls Tryz.prog 111 #[.pointer (some ⟨b,a,none⟩),.agg #[.int .i64 3,.int .i64 k,.int .i64 pa,.int .i64 1,.int .i64 n,.int .i64 m],.int .i64 g] w λe w'=>e=.returned (.tuple #[])/\∃ c,Below w.heap.size w c/\w'=c.setCell ⟨b,a+k*7+3,none⟩ (.int .i64 n):=by
 have l:(0:Int)<=(k:Int):=by omega
 have o:(k:Int)<21:=by omega
 go_enter Tryz.func111,Tryz.ntmps111;go_wp2;go_big_quiet (fail);go_wp2_with fail;go_region;go_wp2;refine bodyPost_end (results_none rfl _ _ _) rfl ?_;exact ⟨rfl,_,QL ((Below.refl _ _).alloc (Nat.le_refl _) _) _,rfl⟩
theorem QoH (b a k:Nat) (pa n m g v:Int) (w:World) (d:k<21) (f:w.cell? ⟨b,a+k*7,none⟩=some (.bool true)) (h:w.cell? ⟨b,a+k*7+1,none⟩=some (.int .i64 g)) (i:w.cell? ⟨b,a+k*7+4,none⟩=some (.int .i64 v)) (j:w.frozen? ⟨b,a+k*7+4,none⟩=false) (hb:b<w.heap.size) : Calls Tryz.prog 111 #[.pointer (some ⟨b,a,none⟩),.agg #[.int .i64 3,.int .i64 k,.int .i64 pa,.int .i64 2,.int .i64 n,.int .i64 m],.int .i64 g] w λe w'=>e=.returned (.tuple #[])/\∃ c,Below w.heap.size w c/\w'=c.setCell ⟨b,a+k*7+4,none⟩ (.int .i64 n):=by
 have l:(0:Int)<=(k:Int):=by omega
 have o:(k:Int)<21:=by omega
 go_enter Tryz.func111,Tryz.ntmps111;go_wp2;go_big_quiet (fail);go_wp2_with fail;go_region;go_wp2;refine bodyPost_end (results_none rfl _ _ _) rfl ?_;exact ⟨rfl,_,QL ((Below.refl _ _).alloc (Nat.le_refl _) _) _,rfl⟩
theorem QuP (b a k:Nat) (pa n m g v:Int) (w:World) (d:k<21) (f:w.cell? ⟨b,a+k*7,none⟩=some (.bool true)) (h:w.cell? ⟨b,a+k*7+1,none⟩=some (.int .i64 g)) (i:w.cell? ⟨b,a+k*7+5,none⟩=some (.int .i64 v)) (j:w.frozen? ⟨b,a+k*7+5,none⟩=false) (hb:b<w.heap.size) : Calls Tryz.prog 111 #[.pointer (some ⟨b,a,none⟩),.agg #[.int .i64 3,.int .i64 k,.int .i64 pa,.int .i64 3,.int .i64 n,.int .i64 m],.int .i64 g] w λe w'=>e=.returned (.tuple #[])/\∃ c,Below w.heap.size w c/\w'=c.setCell ⟨b,a+k*7+5,none⟩ (.int .i64 n):=by
 have l:(0:Int)<=(k:Int):=by omega
 have o:(k:Int)<21:=by omega
 go_enter Tryz.func111,Tryz.ntmps111;go_wp2;go_big_quiet (fail);go_wp2_with fail;go_region;go_wp2;refine bodyPost_end (results_none rfl _ _ _) rfl ?_;exact ⟨rfl,_,QL ((Below.refl _ _).alloc (Nat.le_refl _) _) _,rfl⟩
theorem Qon (b a k:Nat) (pa n m g v:Int) (w:World) (d:k<21) (f:w.cell? ⟨b,a+k*7,none⟩=some (.bool true)) (h:w.cell? ⟨b,a+k*7+1,none⟩=some (.int .i64 g)) (i:w.cell? ⟨b,a+k*7+3,none⟩=some (.int .i64 v)) (j:w.frozen? ⟨b,a+k*7+3,none⟩=false) (hb:b<w.heap.size) : Calls Tryz.prog 111 #[.pointer (some ⟨b,a,none⟩),.agg #[.int .i64 4,.int .i64 k,.int .i64 pa,.int .i64 1,.int .i64 n,.int .i64 m],.int .i64 g] w λe w'=>e=.returned (.tuple #[])/\∃ c,Below w.heap.size w c/\w'=c.setCell ⟨b,a+k*7+3,none⟩ (.int .i64 (IntKind.i64.wrap (v+n))):=by
 have l:(0:Int)<=(k:Int):=by omega
 have o:(k:Int)<21:=by omega
 go_enter Tryz.func111,Tryz.ntmps111;go_wp2;go_big_quiet (fail);go_wp2_with fail;go_region;go_wp2;refine bodyPost_end (results_none rfl _ _ _) rfl ?_;exact ⟨rfl,_,QL ((Below.refl _ _).alloc (Nat.le_refl _) _) _,by rw [QgY]⟩
theorem QtP (b a k:Nat) (pa n m g v:Int) (w:World) (d:k<21) (f:w.cell? ⟨b,a+k*7,none⟩=some (.bool true)) (h:w.cell? ⟨b,a+k*7+1,none⟩=some (.int .i64 g)) (i:w.cell? ⟨b,a+k*7+4,none⟩=some (.int .i64 v)) (j:w.frozen? ⟨b,a+k*7+4,none⟩=false) (hb:b<w.heap.size) : Calls Tryz.prog 111 #[.pointer (some ⟨b,a,none⟩),.agg #[.int .i64 4,.int .i64 k,.int .i64 pa,.int .i64 2,.int .i64 n,.int .i64 m],.int .i64 g] w λe w'=>e=.returned (.tuple #[])/\∃ c,Below w.heap.size w c/\w'=c.setCell ⟨b,a+k*7+4,none⟩ (.int .i64 (IntKind.i64.wrap (v+n))):=by
 have l:(0:Int)<=(k:Int):=by omega
 have o:(k:Int)<21:=by omega
 go_enter Tryz.func111,Tryz.ntmps111;go_wp2;go_big_quiet (fail);go_wp2_with fail;go_region;go_wp2;refine bodyPost_end (results_none rfl _ _ _) rfl ?_;exact ⟨rfl,_,QL ((Below.refl _ _).alloc (Nat.le_refl _) _) _,by rw [QgY]⟩
theorem Qo1 (b a k:Nat) (pa n m g v:Int) (w:World) (d:k<21) (f:w.cell? ⟨b,a+k*7,none⟩=some (.bool true)) (h:w.cell? ⟨b,a+k*7+1,none⟩=some (.int .i64 g)) (i:w.cell? ⟨b,a+k*7+5,none⟩=some (.int .i64 v)) (j:w.frozen? ⟨b,a+k*7+5,none⟩=false) (hb:b<w.heap.size) : Calls Tryz.prog 111 #[.pointer (some ⟨b,a,none⟩),.agg #[.int .i64 4,.int .i64 k,.int .i64 pa,.int .i64 3,.int .i64 n,.int .i64 m],.int .i64 g] w λe w'=>e=.returned (.tuple #[])/\∃ c,Below w.heap.size w c/\w'=c.setCell ⟨b,a+k*7+5,none⟩ (.int .i64 (IntKind.i64.wrap (v+n))):=by
 have l:(0:Int)<=(k:Int):=by omega
 have o:(k:Int)<21:=by omega
 go_enter Tryz.func111,Tryz.ntmps111;go_wp2;go_big_quiet (fail);go_wp2_with fail;go_region;go_wp2;refine bodyPost_end (results_none rfl _ _ _) rfl ?_;exact ⟨rfl,_,QL ((Below.refl _ _).alloc (Nat.le_refl _) _) _,by rw [QgY]⟩
theorem Jd.belowR {c a:Qu} {w w1 w2:World} {b d:Nat} {C:Nat->Cm} (h:Jd c w b d a w1 C) (hb:Below w1.heap.size w1 w2):Jd c w b d a w2 C:=h.trans (.refl h.cs hb)
theorem Ql5 {C:Nat->Cm} {b:Nat->Nat} (h:Deep (Qh C) b):∀ (d i:Nat),b i=d->(C i).on=true->Chn C d (C i).par
 | 0,i,hd,hi=>by
  rcases h.up i hi with ⟨a,_⟩|⟨p,_,_,_,_,e⟩
  ·exact a
  omega
 | d+1,i,hd,hi=>by
  rcases h.up i hi with ⟨_,a⟩|⟨p,c,f,g,j,k⟩
  ·omega
  exact ⟨p,c,f,g,Ql5 h d p (by omega) j⟩
def QcU (C D:Nat->Cm):Prop:=∀ i,D i=C i \/ ∃ g,D i=⟨false,g,0,0,0,0,none,0,0,[]⟩
theorem QcU.trans {C D a:Nat->Cm} (h:QcU C D) (k:QcU D a):QcU C a:=λi=>by
 rcases k i with e|e
 ·rw [e];exact h i
 exact .inr e
theorem Qsa (C:Nat->Cm) (k:Nat):QcU C (Jc C k (Qch (C k))):=λi=>by
 unfold Jc;by_cases e:i=k
 ·rw [if_pos e];exact .inr ⟨_,rfl⟩
 rw [if_neg e];exact .inl rfl
theorem QhN {f:(Nat->Cm)->Nat->(Nat->Cm)} (a:∀ C k,QcU C (f C k)) (D:Nat->Cm) (k:Nat):∀ i,QcU D (JB f D k i)
 | 0=>λ_=>.inl rfl
 | i+1=>by
  unfold JB;split
  ·exact (QhN a D k i).trans (a _ _)
  exact QhN a D k i
theorem QjM:∀ f C k,QcU C (J6 f C k)| 0,_,_=>λ_=>.inl rfl| f+1,C,k=>(Qsa C k).trans (QhN (QjM f) _ _ _)
def Qcm (d:Qu) (w:World) (b f:Nat) (D:Nat->Pc) (w':World):Prop:=∃ c a,Jd d w b f c w' a/\Qh a=D
theorem Qu0 {d:Qu} {w:World} {b a:Nat} {C:Nat->Cm} {l:Int} (h:ZW d w b a C) (m:QY l (Qh C)) (t:l<1000000) (k q:Nat) (j:k<21) (p:q<21) : Calls Tryz.prog 152 #[.pointer (some ⟨b,a,none⟩),.int .i64 k,.int .i64 q] w λe w'=>e=.returned (.tuple #[])/\Qcm d w b a (if !(Qh C k).on&&((q:Int)==0||((Qh C q).on&&decide (QbK (Qh C) 5 (Qh C q).par+1<5))) then Zu (Qh C) k ⟨true,(Qh C k).gen+1,q,0,0,0,[]⟩ else Qh C) w':=by
 obtain ⟨r,f⟩:=m.deep;have n:=Qrh b a q (QbK (Qh C) 5 (C q).par) C w h.set p (λc=>by have e:QbK (Qh C) 5 (C q).par=r q:=f.above 5 q c (by have:=f.five q c;omega);have:=f.five q c;exact ⟨by rw [e];exact Ql5 f _ q rfl c,by omega⟩);cases g:QdV C k q ((C q).on&&decide (QbK (Qh C) 5 (C q).par+1<5)) with
 | false =>refine (QoC b a k q C w h.set j _ (λ_=>n) g).mono ?_;rintro e w' ⟨rfl,rfl⟩;refine ⟨rfl,d,C,.refl h (Below.refl _ _),?_⟩;rw [if_neg];intro e;have e:QdV C k q ((C q).on&&decide (QbK (Qh C) 5 (C q).par+1<5))=true:=e;rw [g] at e;cases e
 | true =>
  have o:=m.gen k;refine (QuA b a k q C w h.set h.froz j _ (λ_=>n) g ⟨o.1,by have u:(C k).gen<=l:=o.2;omega⟩).mono ?_;rintro e w' ⟨rfl,s⟩;refine ⟨rfl,d,_,h.put (Qar.of_laid h.set s j) (λi v=>?_),?_⟩
  ·unfold Jc;by_cases e:i=k
   ·rw [if_pos e];exact .inr ⟨rfl,rfl⟩
   rw [if_neg e];exact .inl ⟨rfl,rfl⟩
  rw [Qdt,if_pos]
  ·rfl
  exact g
theorem Qun {f:Qu} {w:World} {b d:Nat} {C:Nat->Cm} {y:Int} (h:ZW f w b d C) (l:QY y (Qh C)) (k:Nat) (r:0<k) (t:k<21) (s:(C k).on=true) : Calls Tryz.prog 153 #[.pointer (some ⟨b,d,none⟩),.int .i64 k] w λe w'=>e=.returned (.tuple #[])/\Qcm f w b d (QaD 5 (Qh C) k) w':=by
 obtain ⟨u,j⟩:=l.deep;have v:∀ i,(C i).on=true->i≠0:=λi c e=>by have:=l.zero;rw [e] at c;have x:(Qh C 0).on=(C 0).on:=rfl;rw [x,c] at this;cases this
 refine (Qqs b d u 5 k C w h.set h.froz h.lt t r (j.five k s) (by omega) (λi c m=>⟨j.five i m,λp n z=>?_⟩) v).mono ?_
 ·rcases j.up i m with ⟨a,_⟩|⟨q,A,B,o,D,E⟩
  ·have a:(C i).par=0:=a;omega
  have o:(C i).par=q:=o;have:p=q:=by omega
  rw [this];omega
 rintro e w' ⟨rfl,n⟩;refine ⟨rfl,f,_,h.put n (λi c=>?_),Qlp 5 C k⟩;rcases QjM 5 C k i with e|⟨g,e⟩
 ·rw [e];exact .inl ⟨rfl,rfl⟩
 rw [e];exact .inr ⟨rfl,rfl⟩
theorem ZW.nums {d:Qu} {w:World} {b f:Nat} {C:Nat->Cm} (h:ZW d w b f C) {k:Nat} (c:k<21):QbN w (C k).no (C k).ns/\w.ownsRow 0 3 1 (.slice (C k).no (C k).nn (C k).nc) (C k).nn (JC (C k).ns):=by have a:=h.row k c;rw [<- h.nn c] at a;exact ⟨QmA a,a⟩
theorem QsD {l:Qu} {w:World} {b i:Nat} {C:Nat->Cm} {D:Int} (h:ZW l w b i C) (r:QY D (Qh C)) (k:Nat) (a:k<21) (n:Int) : Calls Tryz.prog 154 #[.pointer (some ⟨b,i+k*7,none⟩),.int .i64 n] w λe w'=>e=.returned (.tuple #[])/\Qcm l w b i (if !(Qh C k).ns.contains n&&decide ((Qh C k).ns.length<8) then Zu (Qh C) k { Qh C k with ns:=(Qh C k).ns++[n] } else Qh C) w':=by
 obtain ⟨v,x⟩:=h.nums a;have j:=h.nn a;have E:(C k).ns.length<=8:=r.few k;have o:=(h.set.cm k a).c6;cases hb:(!(C k).ns.contains n&&decide ((C k).ns.length<8)) with
 | false =>refine (Qqg b (i+k*7) n (C k).no (C k).nn (C k).nc (C k).ns w o j (by omega) v (by rw [j];exact hb)).mono ?_;rintro e w' ⟨rfl,rfl⟩;refine ⟨rfl,l,C,.refl h (Below.refl _ _),?_⟩;rw [if_neg];intro e;have e:(!(C k).ns.contains n&&decide ((C k).ns.length<8))=true:=e;rw [hb] at e;cases e
 | true =>
  have s:=hb;simp only [Bool.and_eq_true,Bool.not_eq_true',decide_eq_true_eq] at hb;refine (QsX b (i+k*7) 0 n (C k).no (C k).nn (C k).nc (C k).ns w o (h.froz _) j (by omega) x hb.1 (Nat.zero_le _) h.lt (λe=>?_)).mono ?_
  ·have:=h.rrole k b a e;rw [h.role] at this;have:=Option.some.inj this;omega
  rintro e w' ⟨rfl,F,w2,A,rfl,p,d⟩;obtain ⟨ao,c,rfl⟩:=QfS p;have m:=(Below.refl w.heap.size w).alloc (Nat.le_refl _) A;have y:=h.below m;obtain ⟨t,z⟩:=y.list a ao ((C k).nn+1) c ((C k).ns++[n]) (w2:=w2) ⟨d.by.os,d.by.tape,d.by.output,d.by.size,λq B u=>d.by.block q B λe=>u (h.rrole k q a e.symm)⟩ (by rw [length_append,length_singleton,<- j];exact p) (λg e=>by
   rcases d.at with f|f
   ·exact .inl (h.rrole k g a (by rw [e] at f;exact f.symm))
   rw [e] at f;have:=Option.some.inj f;exact .inr (by omega))
  refine ⟨rfl,t,_,Jd.belowL m h.lt h.low z,?_⟩;rw [Qdt,if_pos]
  ·rfl
  exact s
theorem QrF {B:Qu} {w:World} {b o:Nat} {C:Nat->Cm} {a5:Int} (h:ZW B w b o C) (I:QY a5 (Qh C)) (k:Nat) (f:k<21) (n:Int) : Calls Tryz.prog 155 #[.pointer (some ⟨b,o+k*7,none⟩),.int .i64 n] w λe w'=>e=.returned (.tuple #[])/\Qcm B w b o (Zu (Qh C) k { Qh C k with ns:=(Qh C k).ns.erase n }) w':=by
 obtain ⟨D,O⟩:=h.nums f;have P:=h.nn f;have aa:(C k).ns.length<=8:=I.few k;have E:=(h.set.cm k f).c6;have T:∀ a,(C k).no=some a->a.block<w.heap.size:=λa e=>(O.lt a.block (by rw [e];rfl)).2;by_cases F:n ∈ (C k).ns
 ·obtain ⟨c,d,a0,i,a1⟩:=List.exists_erase_eq F;have J:(C k).ns.Nodup:=I.nodup k;have a6:(C k).ns.length=c.length+1+d.length:=by rw [i,length_append,length_cons];omega
  rcases O.2 with ⟨e,_⟩|⟨g,cap,U,e,_,x,K,L,V,_⟩
  ·injection e with e4 e5 e6;omega
  injection e with e4 e5 e6;have M:g<w.heap.size:=QN x;have p:B g=some (30+k):=h.rrole k g f (by unfold Cm.hdr;rw [e4];rfl);have W:b≠g:=λe=>by rw [<- e,h.role] at p;have:=Option.some.inj p;omega
  rw [e4] at E D;rw [<- e6] at K L V;have S:∀ t,t<c.length->(C k).ns.getD t 0=(c++d).getD t 0:=λt l=>by rw [getD_eq_getElem?_getD,getD_eq_getElem?_getD,i,getElem?_append_left l,getElem?_append_left l]
  have H:∀ t,c.length<=t->(C k).ns.getD (t+1) 0=(c++d).getD t 0:=λt l=>by rw [getD_eq_getElem?_getD,getD_eq_getElem?_getD,i,getElem?_append_right (by omega),getElem?_append_right l,show t+1-c.length=t-c.length+1 by omega,getElem?_cons_succ]
  refine (QoJ b (o+k*7) n g (C k).nn (C k).nc c.length (C k).ns w E (h.froz _) h.lt W P (by omega) K D (λt=>Jp x t) M (by omega) (λu q=>?_) ?_ (λt ab ac=>?_)).mono ?_
  ·rw [i,take_left] at q;exact λe=>a0 (e▸q)
  ·rw [i,getElem?_append_right (Nat.le_refl _),Nat.sub_self];rfl
  ·obtain ⟨s,rfl⟩:∃ s,t=s+1:=⟨t-1,by omega⟩;rw [H s (by omega),getD_eq_getElem?_getD,getElem?_append_right (by omega),getElem?_eq_getElem (by omega)];intro e;have e:d[s-c.length]=n:=e;rw [i,nodup_append] at J;exact (nodup_cons.1 J.2.1).1 (e▸getElem_mem _)
  rintro e w' ⟨rfl,w2,A,rfl,a2,a8,l,a3⟩;have y:=(Below.refl w.heap.size w).alloc (Nat.le_refl _) A;have a4:=h.below y;obtain ⟨a7,X,a9⟩:=a3 U _ ((y.block g M).trans x);obtain ⟨z,G⟩:=a4.list f (some ⟨g,0,none⟩) ((C k).nn-1) (C k).nc (c++d) (w2:=w2) (l.mono λu _ e=>by rw [e];exact p) (by
   have N:(c++d).length=(C k).nn-1:=by rw [length_append];omega
   rw [N];refine QsU X (by omega) (by unfold JC;rw [length_map];exact N) (by omega) L λj v m=>?_;unfold JC at m;rw [getElem?_map] at m;have r:j<(c++d).length:=by
    by_cases r:j<(c++d).length
    ·exact r
    rw [getElem?_eq_none (by omega)] at m;cases m
   have Y:=a2 j (by omega);rw [Y];rw [getElem?_eq_getElem r] at m;rw [<- m];have R:(c++d).getD j 0=(c++d)[j]:=by rw [getD_eq_getElem?_getD,getElem?_eq_getElem r];rfl
   split
   ·rename_i hjl;rw [S j hjl,R];rfl
   ·rename_i hjl;rw [H j (by omega),R];rfl) (λu e=>by
   have e:some g=some u:=e;rw [<- Option.some.inj e];exact .inl p)
  refine ⟨rfl,z,_,Jd.belowL y h.lt h.low G,?_⟩;rw [Qdt];show _=Zu (Qh C) k { Qh C k with ns:=(C k).ns.erase n };rw [a1];rfl
 refine (Qtf b (o+k*7) n (C k).no (C k).nn (C k).nc (C k).ns w E (h.froz _) h.lt P (by omega) D T (λu q e=>F (e▸q))).mono ?_;rintro e w' ⟨rfl,A,rfl⟩;obtain ⟨z,G⟩:=h.list f (C k).no (C k).nn (C k).nc (C k).ns (w2:=w) ⟨rfl,rfl,rfl,Nat.le_refl _,λ_ _ _=>rfl⟩ (h.row k f) (λg e=>.inl (h.rrole k g f e));refine ⟨rfl,z,_,G.belowR ((Below.refl _ _).alloc (Nat.le_refl _) A),?_⟩;rw [Qdt];show _=Zu (Qh C) k { Qh C k with ns:=(C k).ns.erase n };rw [List.erase_of_not_mem F];rfl
theorem Qrn {n:Qu} {w:World} {b o:Nat} {C:Nat->Cm} {aa:Int} (h:ZW n w b o C) (N:QY aa (Qh C)) (k:Nat) (f:k<21) (i j:Int) (U:0<=i) (V:0<=j) : Calls Tryz.prog 156 #[.pointer (some ⟨b,o+k*7,none⟩),.int .i64 i,.int .i64 j] w λe w'=>e=.returned (.tuple #[])/\Qcm n w b o (if (Qh C k).ns.length=0 then Qh C else Zu (Qh C) k { Qh C k with ns:=Qad (Qh C k).ns (Int.tmod i (Qh C k).ns.length).toNat (Int.tmod j (Qh C k).ns.length).toNat }) w':=by
 obtain ⟨J,W⟩:=h.nums f;have A:=h.nn f;have ae:(C k).ns.length<=8:=N.few k;have r:=(h.set.cm k f).c6;by_cases B:(C k).ns.length=0
 ·refine (Qnt b (o+k*7) i j (C k).no (C k).nc w (by rw [A,B] at r;exact r)).mono ?_;rintro e w' ⟨rfl,rfl⟩;refine ⟨rfl,n,C,.refl h (Below.refl _ _),?_⟩;rw [if_pos];exact B
 rcases W.2 with ⟨e,_⟩|⟨g,cap,ab,e,_,O,ac,z,ad,_⟩
 ·injection e with e4 e5 e6;omega
 injection e with e4 e5 e6;have p:n g=some (30+k):=h.rrole k g f (by unfold Cm.hdr;rw [e4];rfl);have P:b≠g:=λe=>by rw [<- e,h.role] at p;have:=Option.some.inj p;omega
 obtain ⟨m,K⟩:∃ m,(C k).ns.length=m+1:=⟨(C k).ns.length-1,by omega⟩;have F:∀ x:Int,0<=x->∃ t:Nat,Int.tmod x ((m:Int)+1)=t/\t<=m/\(Int.tmod x (C k).ns.length).toNat=t:=λx X=>by have af:=Int.tmod_nonneg ((m:Int)+1) X;have ag:=Int.tmod_lt_of_pos x (b:=(m:Int)+1) (by omega);refine ⟨(Int.tmod x ((m:Int)+1)).toNat,by omega,by omega,?_⟩;rw [K];rfl
 obtain ⟨a,Y,a0,a1⟩:=F i U;obtain ⟨c,a2,a3,a4⟩:=F j V;rw [e4] at J;have G:∀ t,(u:t<(C k).ns.length)->w.cell? ⟨g,t,none⟩=some (.int .i64 (C k).ns[t]):=λt u=>by obtain ⟨ah,e,a5⟩:=J t _ (getElem?_eq_getElem u);cases e;exact a5
 refine (Qpr b (o+k*7) g m (C k).nc i j a c _ _ w (by rw [e4,A,K] at r;exact r) Y a2 a0 a3 (G a (by omega)) (G c (by omega)) (λt=>Jp O t) (by omega)).mono ?_;rintro e w' ⟨rfl,d,rfl⟩;have H:Below w.heap.size w (w.drewN d):=QL (Below.refl _ _) d;have D:=h.below H;obtain ⟨_,R⟩:=D.nums f;have I:=R;rw [e4] at I;have M:=((I.stored a (.int .i64 (C k).ns[c])).1.stored c (.int .i64 (C k).ns[a])).1;have q:∀ (v:Value) (t s:Nat) (E:World),(E.setCell ⟨g,t,none⟩ v).cell? ⟨b,s,none⟩=E.cell? ⟨b,s,none⟩:=λv t s E=>World.cell?_setCell_other _ _ _ _ (by intro e;cases e;exact P rfl);obtain ⟨S,a6⟩:=D.one f { C k with ns:=Qad (C k).ns a c } (w':=((w.drewN d).setCell ⟨g,a,none⟩ (.int .i64 (C k).ns[c])).setCell ⟨g,c,none⟩ (.int .i64 (C k).ns[a])) (λt v L=>by
  rw [q,q];have z:=D.set (k*7+t) v (by have u:t<7:=(List.getElem?_eq_some_iff.1 L).1;rw [QcS _ k t u 21 f];exact L);rw [<- Nat.add_assoc] at z;exact z) (λt _=>by rw [q,q]) (λt=>by rw [World.frozen?_setCell,World.frozen?_setCell]) ((((⟨rfl,rfl,rfl,Nat.le_refl _,λ_ _ _=>rfl⟩:Qx (λy=>y=b \/ n y=some (30+k)) (w.drewN d) (w.drewN d))).set (.inl (.inr p)) _).set (.inl (.inr p)) _) (by
  have a7:(C k).ns.getD c 0=(C k).ns[c]:=by rw [getD_eq_getElem?_getD,getElem?_eq_getElem (by omega)];rfl
  have a8:(C k).ns.getD a 0=(C k).ns[a]:=by rw [getD_eq_getElem?_getD,getElem?_eq_getElem (by omega)];rfl
  have a9:JC (Qad (C k).ns a c)=((JC (C k).ns).set a (.int .i64 (C k).ns[c])).set c (.int .i64 (C k).ns[a]):=by unfold JC Qad;rw [map_set,map_set,a7,a8]
  show World.ownsRow _ 0 3 1 (.slice (C k).no (C k).nn (C k).nc) (Qad (C k).ns a c).length (JC (Qad (C k).ns a c));rw [Qdw,a9,e4];have T:∀ l:Nat,l=(C k).nn->World.ownsRow (((w.drewN d).setCell ⟨g,a,none⟩ (.int .i64 (C k).ns[c])).setCell ⟨g,c,none⟩ (.int .i64 (C k).ns[a])) 0 3 1 (.slice (some ⟨g,0,none⟩) (C k).nn (C k).nc) l (((JC (C k).ns).set a (.int .i64 (C k).ns[c])).set c (.int .i64 (C k).ns[a])):=λl e=>by rw [e];exact M
  exact T _ A.symm) (λy e=>.inl (h.rrole k y f e))
 refine ⟨rfl,S,_,Jd.belowL H h.lt h.low a6,?_⟩;rw [Qdt,if_neg (show ¬ (Qh C k).ns.length=0 from B)];show Zu (Qh C) k { Qh C k with ns:=Qad (C k).ns a c }=Zu (Qh C) k { Qh C k with ns:=Qad (C k).ns (Int.tmod i (C k).ns.length).toNat (Int.tmod j (C k).ns.length).toNat };rw [a1,a4]
theorem Qcm.below {a:Qu} {w c w':World} {b d:Nat} {D:Nat->Pc} (hb:Below w.heap.size w c) (i:b<w.heap.size) (g:∀ f,(a f).isSome=true->f<w.heap.size) (h:Qcm a c b d D w'):Qcm a w b d D w':=by obtain ⟨j,k,l,e⟩:=h;exact ⟨j,k,Jd.belowL hb i g l,e⟩
theorem Qqz {a:Ac} (b:a.may=true) (c:a.kd≠8/\a.kd≠9):1<=a.nm/\a.nm<=20/\a.rest=true:=by
 unfold Ac.may at b;simp only [Bool.and_eq_true,Bool.or_eq_true,beq_iff_eq,decide_eq_true_eq] at b;rcases b.2 with (e|e)|e
 ·exact absurd e c.1
 ·exact absurd e c.2
 exact ⟨e.1.1,e.1.2,e.2⟩
theorem Qp2 {z:Qu} {w:World} {b i:Nat} {C:Nat->Cm} {R:Int} (h:ZW z w b i C) (x:QY R (Qh C)) (U:R<1000000) (a:Ac) (g:Int) (V:a.may=true) (G:a.kd≠8/\a.kd≠9) : Calls Tryz.prog 111 #[.pointer (some ⟨b,i,none⟩),a.val,.int .i64 g] w λe w'=>e=.returned (.tuple #[])/\Qcm z w b i (QcG (Qh C) a g) w':=by
 obtain ⟨W,X,c⟩:=Qqz V G;obtain ⟨t,nm,pa,j,n,m⟩:=a;simp only at W X c G;obtain ⟨k,rfl⟩:∃ k:Nat,nm=k:=⟨nm.toNat,by omega⟩;have d:k<21:=by omega
 have S:0<k:=by omega
 obtain ⟨l,o,a3,H,I,J,a4⟩:=h.set.cm k d;unfold Ac.rest at c;unfold Ac.val QcG;simp only at c ⊢;rw [Int.toNat_natCast];by_cases E:t=1
 ·subst E;rw [if_pos rfl] at c ⊢;simp only [Bool.and_eq_true,decide_eq_true_eq] at c;obtain ⟨q,rfl⟩:∃ q:Nat,pa=q:=⟨pa.toNat,by omega⟩;rw [Int.toNat_natCast];exact QrM b i k q j n m g w _ (Qa λu f=>(Qu0 (h.below f) x U k q d (by omega)).mono λe w' ⟨p,s⟩=>⟨p,s.below f h.lt h.low⟩)
 rw [if_neg E] at c ⊢;cases y:((C k).on&&(C k).gen==g) with
 | false =>have A:((Qh C k).on&&(Qh C k).gen==g)=false:=y;rw [A,if_neg (by simp)];refine (QoK b i k t pa j n m g (C k).gen (C k).on w d l o h.lt (by simpa using E) y).mono ?_;rintro e w' ⟨rfl,hb⟩;exact ⟨rfl,z,C,.refl h hb,rfl⟩
 | true =>
  have A:((Qh C k).on&&(Qh C k).gen==g)=true:=y;rw [A,if_pos rfl];simp only [Bool.and_eq_true,beq_iff_eq] at y;obtain ⟨K,Y⟩:=y;rw [K] at l;rw [Y] at o;have JK:∀ (r:Nat) (F:r=3 \/ r=4 \/ r=5) (v:Int) (D:Nat->Pc),D=Zu (Qh C) k { Qh C k with fa:=if r=3 then v else (C k).fa,fb:=if r=4 then v else (C k).fb,fc:=if r=5 then v else (C k).fc }->∀ (e:Ending) (w':World),(e=.returned (.tuple #[])/\∃ u,Below w.heap.size w u/\w'=u.setCell ⟨b,i+k*7+r,none⟩ (.int .i64 v))->e=.returned (.tuple #[])/\Qcm z w b i D w':=λr F v D a0 e w' ⟨p,u,f,s⟩=>by subst s;obtain ⟨T,a1⟩:=(h.below f).field d r F v;exact ⟨p,T,_,Jd.belowL f h.lt h.low a1,by rw [Qdt,a0];rfl⟩
  by_cases L:t=2
  ·subst L;rw [if_pos rfl];exact Qr5 b i k pa j n m g w d l o h.lt _ (Qa λu f=>(Qun (h.below f) x k S d K).mono λe w' ⟨p,s⟩=>⟨p,s.below f h.lt h.low⟩)
  rw [if_neg L] at c ⊢;by_cases M:t=3
  ·subst M;rw [if_pos rfl];rw [if_pos (.inl rfl)] at c;simp only [Bool.and_eq_true,decide_eq_true_eq] at c;have B:j=1 \/ j=2 \/ j=3:=by omega
   rcases B with rfl|rfl|rfl
   ·exact (QuB b i k pa n m g _ w d l o H (h.froz _) h.lt).mono (JK 3 (.inl rfl) n _ rfl)
   ·exact (QoH b i k pa n m g _ w d l o I (h.froz _) h.lt).mono (JK 4 (.inr (.inl rfl)) n _ rfl)
   exact (QuP b i k pa n m g _ w d l o J (h.froz _) h.lt).mono (JK 5 (.inr (.inr rfl)) n _ rfl)
  rw [if_neg M];by_cases N:t=4
  ·subst N;rw [if_pos rfl];rw [if_pos (.inr rfl)] at c;simp only [Bool.and_eq_true,decide_eq_true_eq] at c;have B:j=1 \/ j=2 \/ j=3:=by omega
   rcases B with rfl|rfl|rfl
   ·exact (Qon b i k pa n m g _ w d l o H (h.froz _) h.lt).mono (JK 3 (.inl rfl) _ _ rfl)
   ·exact (QtP b i k pa n m g _ w d l o I (h.froz _) h.lt).mono (JK 4 (.inr (.inl rfl)) _ _ rfl)
   exact (Qo1 b i k pa n m g _ w d l o J (h.froz _) h.lt).mono (JK 5 (.inr (.inr rfl)) _ _ rfl)
  rw [if_neg N];rw [if_neg (by omega)] at c;by_cases O:t=5
  ·subst O;rw [if_pos rfl];exact Qm4 b i k pa j n m g w d l o h.lt _ (Qa λu f=>(QsD (h.below f) x k d n).mono λe w' ⟨p,s⟩=>⟨p,s.below f h.lt h.low⟩)
  rw [if_neg O];by_cases P:t=6
  ·subst P;rw [if_pos rfl];exact QnZ b i k pa j n m g w d l o h.lt _ (Qa λu f=>(QrF (h.below f) x k d n).mono λe w' ⟨p,s⟩=>⟨p,s.below f h.lt h.low⟩)
  rw [if_neg P];rw [if_neg (by omega)] at c;have a2:t=7:=by
   by_cases e:t=7
   ·exact e
   rw [if_neg e] at c;cases c
  subst a2;rw [if_pos rfl] at c;simp only [Bool.and_eq_true,decide_eq_true_eq] at c;exact Qpv b i k pa j n m g w d l o h.lt _ (Qa λu f=>(Qrn (h.below f) x k d n m c.1 c.2).mono λe w' ⟨p,s⟩=>⟨p,s.below f h.lt h.low⟩)
end Go.Proofs.YtobgcaemnpkbmaaGreatDoor
