import Derived.Test.YtobgcaemnpkbmaaGreatDoorC14
namespace Go.Proofs.YtobgcaemnpkbmaaGreatDoor
set_option maxRecDepth 100000
set_option maxHeartbeats 8000000
open Go.RowKit List
theorem QE.small {R:List RN} {last:Int} (h:QE R last) (b:last<=4611686018427387904):∀ n,n ∈ R->Qg n.id:=λn a=>by have c:=h.ids.pos n a;have d:=h.top n a;unfold Qg;omega
theorem QE.tops {R:List RN} {last:Int} (h:QE R last):∀ n,n ∈ R->n.id<=last/\0<=n.par/\n.par<=last:=λn a=>by
 obtain ⟨rk,c⟩:=h.up;refine ⟨h.top n a,?_⟩;have d:=h.last_pos;rcases c.par n a with e|⟨m,b,e⟩
 ·omega
 have f:=h.ids.pos m b;have g:=h.top m b;omega
theorem Qdu {s:ByteArray} (h:QR s=true):s.size<=8:=by unfold QR at h;simp at h;omega
theorem Qip (s:ByteArray):decide ((s.size:Int)<=20)=Zx s:=by
 unfold Zx;by_cases h:s.size<=20
 ·rw [decide_eq_true h,decide_eq_true (by omega)]
 rw [decide_eq_false h,decide_eq_false (by omega)]
theorem QkQ {n:RN} {x:Qn} (b:Zw n.ats):QdN n x=Zc n.ats x.name:=by
 unfold QdN;rw [Qih b];cases a:Zc n.ats x.name with
 | false=>simp
 | true =>
  have c:Qs n.ats x.name<n.ats.length:=by unfold Zc at a;simp only [Bool.and_eq_true,decide_eq_true_eq] at a;exact a.1
  rw [if_pos rfl];refine decide_eq_true ?_;rw [length_append,length_take,length_drop];omega
theorem QtY {a b:ByteArray} (h:ZK a b=true):a=b:=by have h:=Qfg.1 h;rw [ByteArray.toList_eq,ByteArray.toList_eq] at h;cases a;cases b;exact congrArg ByteArray.mk (Array.toList_inj.1 h)
theorem ZA.hit {R:List RN} (f:ZA R) {n:RN} (g:n ∈ R) {nm:ByteArray} (a:Zc n.ats nm=true):QR nm=true/\n.tag.toList.isEmpty=false:=by
 unfold Zc at a;simp only [Bool.and_eq_true,decide_eq_true_eq] at a;obtain ⟨b,c⟩:=a;have h:Qa2 n.ats (Qs n.ats nm)=n.ats[Qs n.ats nm]:=by unfold Qa2;simp [b]
 rw [h] at c;obtain ⟨d,i⟩:=f n g _ (getElem_mem b);have e:(n.ats[Qs n.ats nm]).1=nm:=QtY c;rw [e] at d;exact ⟨d,i⟩
section
variable (ρ : Qo) (nb : Int → Nat) (mb : Nat) (w : World) (q : Nat) (R : List RN) (last : Int) (h : Qi ρ nb mb (some (nb 1)) w q R last) (hok : QE R last)
include h hok
theorem Qu3 (o:last<=4611686018427387904) (id pa bf c:Int) (tg nm a:ByteArray) (l:Qn.Ok ⟨1,id,pa,bf,c,tg,nm,a⟩) (v:pa=0) (hb:bf=0) (x:nm.toList.isEmpty=true) : Xl 102 #[Xp q,.agg #[Xi 1,Xi id,Xi pa,Xi bf,Xi c,.string tg,.string nm,.string a]] w λe w'=>∃ b,e=.returned (.bool b)/\QW ρ nb mb w q R last ⟨1,id,pa,bf,c,tg,nm,a⟩ b w':=by
 have t:canP R last ⟨1,id,pa,bf,c,tg,nm,a⟩=(QbY (Jt tg c a)&&(id==last+1)&&decide (R.length<800)):=by show Qc5 R.length last ⟨1,id,pa,bf,c,tg,nm,a⟩=_;subst v hb;simp [Qc5,x]
 have B:=hok.last_pos;by_cases f:id=last+1
 ·by_cases p:R.length<800
  ·have u:∀ (g:Int->Nat) (ρ':Qo) (w':World),(∀ i,i≠last+1->g i=nb i)->QV ρ ρ' w w'->Qi ρ' g mb (some (nb 1)) w' q (R++[{ id:=last+1,par:=0,tag:=tg,key:=c,text:=a,ats:=[],ao:=none,an:=0,ac:=0 }]) (last+1)->QbY (Jt tg c a)=true->QW ρ nb mb w q R last ⟨1,id,pa,bf,c,tg,nm,a⟩ true w':=λg ρ' w' m r d s=>by
    refine ⟨by rw [t,s,f];simp [p],g,ρ',r,m,?_⟩;rw [m 1 (by omega),if_pos rfl,if_pos rfl];have y:QU R ⟨1,id,pa,bf,c,tg,nm,a⟩=R++[{ id:=last+1,par:=0,tag:=tg,key:=c,text:=a,ats:=[],ao:=none,an:=0,ac:=0 }]:=by rw [<- f];rfl
    have z:Jr last ⟨1,id,pa,bf,c,tg,nm,a⟩=last+1:=by rw [<- f];rfl
    rw [y,z];exact d
   cases j:Q8 (Jt tg c a) with
   | true =>
    have D:tg.size<=8:=Qdu (by have:=j;unfold Q8 at this;simp only [Bool.and_eq_true] at this;exact this.1.1.1);have A:a.size=0:=by
     have:=j;unfold Q8 at this;simp only [Bool.and_eq_true] at this;have r:a.toList=[]:=isEmpty_iff.1 this.1.1.2;have d:a.toList.length=a.size:=by rw [ByteArray.toList_eq,Array.length_toList];rfl
     rw [r] at d;exact d.symm
    refine (Qrj ρ nb mb _ w q R last h 1 id pa bf c tg nm a (by omega) o l.tag l.text p hok.ids hok.tops (by omega) (by omega) f j).mono ?_;rintro e w' ⟨rfl,g,ρ',m,_,d,s⟩;exact ⟨true,rfl,u g ρ' w' m d s (by unfold QbY;rw [j];rfl)⟩
   | false =>
    cases k:Zz (Jt tg c a) with
    | true =>
     have A:tg.size=0:=by
      have:=k;unfold Zz at this;simp only [Bool.and_eq_true] at this;have r:tg.toList=[]:=isEmpty_iff.1 this.1.1.1;have d:tg.toList.length=tg.size:=by rw [ByteArray.toList_eq,Array.length_toList];rfl
      rw [r] at d;exact d.symm
     have C:a.size<=20:=by have:=k;unfold Zz Zx at this;simp only [Bool.and_eq_true,decide_eq_true_eq] at this;exact this.2
     refine (Qsf ρ nb mb _ w q R last h 1 id pa bf c tg nm a (by omega) o l.tag l.text p hok.ids hok.tops (by omega) (by omega) f j k).mono ?_;rintro e w' ⟨rfl,g,ρ',m,_,d,s⟩;exact ⟨true,rfl,u g ρ' w' m d s (by unfold QbY;rw [k,Bool.or_true])⟩
    | false =>refine (QsZ ρ nb mb _ w q R last h 1 id pa bf c tg nm a (by omega) o l.tag l.text p f j k).mono ?_;rintro e w' ⟨rfl,n⟩;exact ⟨false,rfl,QW.no h (by rw [t];unfold QbY;rw [j,k];rfl) n⟩
  subst f;refine (QqI ρ nb mb _ w q R last h 1 pa bf c tg nm a (by omega) o (by omega)).mono ?_;rintro e w' ⟨rfl,n⟩;exact ⟨false,rfl,QW.no h (by rw [t];simp [p]) n⟩
 refine (Qqr ρ nb mb _ w q R last h 1 id pa bf c tg nm a (by omega) o f).mono ?_;rintro e w' ⟨rfl,n⟩;exact ⟨false,rfl,QW.no h (by rw [t];simp [f]) n⟩
theorem QmV (t:last<=4611686018427387904) (id pa bf a:Int) (tg nm c:ByteArray) (j:Qg id) (u:pa=0) (hb:bf=0) (v:a=0) (x:tg.toList.isEmpty=true) (y:nm.toList.isEmpty=true) (z:c.toList.isEmpty=true) : Xl 104 #[Xp q,.agg #[Xi 3,Xi id,Xi pa,Xi bf,Xi a,.string tg,.string nm,.string c]] w λe w'=>∃ b,e=.returned (.bool b)/\QW ρ nb mb w q R last ⟨3,id,pa,bf,a,tg,nm,c⟩ b w':=by
 have g:canP R last ⟨3,id,pa,bf,a,tg,nm,c⟩=(decide (0<=QX R id)&&!(id==1)):=by subst u hb v;simp [canP,Qd1,x,y,z]
 obtain ⟨C,n,l,_⟩:=hok.root;obtain ⟨r,m,rfl⟩:=getElem_of_mem n;rcases QaH hok.ids id with ⟨k,o,p,d⟩|⟨s,d⟩
 ·by_cases i:id=1
  ·subst i;refine (Qq2 ρ nb mb w q R last h 3 pa bf a tg nm c r m l).mono ?_;rintro e w' ⟨rfl,f⟩;exact ⟨false,rfl,QW.no h (by rw [g];simp) f⟩
  refine (QuZ ρ nb mb w q R last h 3 id pa bf a tg nm c j hok.ids hok.up (hok.small t) k o p i r m l).mono ?_;rintro e w' ⟨rfl,ρ',A,B⟩;refine ⟨true,rfl,QW.ok (by rw [g,d];simp [i]) ?_ (Qdq (by simp)) A B⟩;show rmP R (QF R R.length (QX R id).toNat 0)=_;rw [d,Int.toNat_natCast]
 refine (QtN ρ nb mb w q R last h 3 id pa bf a tg nm c j s).mono ?_;rintro e w' ⟨rfl,f⟩;exact ⟨false,rfl,QW.no h (by rw [g,d];simp) f⟩
theorem QnK (id pa bf c:Int) (tg nm a:ByteArray) (r:Qn.Ok ⟨6,id,pa,bf,c,tg,nm,a⟩) (o:Qg id) (t:pa=0) (hb:bf=0) (u:c=0) (v:tg.toList.isEmpty=true) (x:nm.toList.isEmpty=true) : Xl 107 #[Xp q,.agg #[Xi 6,Xi id,Xi pa,Xi bf,Xi c,.string tg,.string nm,.string a]] w λe w'=>∃ b,e=.returned (.bool b)/\QW ρ nb mb w q R last ⟨6,id,pa,bf,c,tg,nm,a⟩ b w':=by
 rcases QaH hok.ids id with ⟨k,j,l,g⟩|⟨s,g⟩
 ·have p:ZG R ⟨6,id,pa,bf,c,tg,nm,a⟩=R[k]:=by unfold ZG;rw [g,Int.toNat_natCast,QaM j]
  have n:canP R last ⟨6,id,pa,bf,c,tg,nm,a⟩=(Zx a&&R[k].tag.toList.isEmpty):=by subst t hb u;simp [canP,Qep,v,x,p,g,Qip]
  have m:Qg R[k].id:=by rw [l];exact o
  cases f:R[k].tag.toList.isEmpty with
  | false =>refine (QuV ρ nb mb _ w q R last h 6 id pa bf c tg nm a k j m l f).mono ?_;rintro e w' ⟨rfl,i⟩;exact ⟨false,rfl,QW.no h (by rw [n,f,Bool.and_false]) i⟩
  | true =>
   cases d:Zx a with
   | false =>refine (QqL ρ nb mb _ w q R last h 6 id pa bf c tg nm a k j m l f r.text d).mono ?_;rintro e w' ⟨rfl,i⟩;exact ⟨false,rfl,QW.no h (by rw [n,d,Bool.false_and]) i⟩
   | true =>
    have A:a.size<=20:=by unfold Zx at d;simpa using d
    refine (Qoq ρ nb mb _ w q R last h 6 id pa bf c tg nm a k j m l hok.ids f r.text (by omega) d).mono ?_;rintro e w' ⟨rfl,ρ',y,z⟩;refine ⟨true,rfl,QW.ok (by rw [n,d,f];rfl) ?_ (Qdq (by simp)) y z⟩;show R.set (QX R id).toNat { ZG R ⟨6,id,pa,bf,c,tg,nm,a⟩ with text:=a }=_;rw [p,g,Int.toNat_natCast]
 refine (QqW ρ nb mb _ w q R last h 6 id pa bf c tg nm a o s).mono ?_;rintro e w' ⟨rfl,i⟩;exact ⟨false,rfl,QW.no h (by unfold canP;simp [g]) i⟩
theorem Qoj (y:ZA R) (id pa bf c:Int) (tg nm a:ByteArray) (n:Qg id) (z:pa=0) (hb:bf=0) (A:c=0) (B:tg.toList.isEmpty=true) (r:a.toList.isEmpty=true) : Xl 106 #[Xp q,.agg #[Xi 5,Xi id,Xi pa,Xi bf,Xi c,.string tg,.string nm,.string a]] w λe w'=>∃ b,e=.returned (.bool b)/\QW ρ nb mb w q R last ⟨5,id,pa,bf,c,tg,nm,a⟩ b w':=by
 rcases QaH hok.ids id with ⟨k,f,j,g⟩|⟨u,g⟩
 ·have o:ZG R ⟨5,id,pa,bf,c,tg,nm,a⟩=R[k]:=by unfold ZG;rw [g,Int.toNat_natCast,QaM f]
  obtain ⟨E,F,C⟩:=h.node _ (getElem_mem f);have v:Zx a=true:=by
   have m:a.toList=[]:=isEmpty_iff.1 r;have i:a.toList.length=a.size:=by rw [ByteArray.toList_eq,Array.length_toList];rfl
   rw [m] at i;unfold Zx;exact decide_eq_true (by rw [<- i];decide)
  have s:canP R last ⟨5,id,pa,bf,c,tg,nm,a⟩=(QR nm&&!R[k].tag.toList.isEmpty&&Zc R[k].ats nm):=by have d:=QkQ (x:=⟨5,id,pa,bf,c,tg,nm,a⟩) C.rise;subst z hb A;simp [canP,QeA,B,r,o,g,Qip,v,d]
  have p:Qg R[k].id:=by rw [j];exact n
  cases d:Zc R[k].ats nm with
  | false =>refine (Qo4 ρ nb mb _ w q R last h 5 id pa bf c tg nm a k f p j d).mono ?_;rintro e w' ⟨rfl,l⟩;exact ⟨false,rfl,QW.no h (by rw [s,d,Bool.and_false]) l⟩
  | true =>obtain ⟨D,t⟩:=y.hit (getElem_mem f) d;refine (QtT ρ nb mb _ w q R last h 5 id pa bf c tg nm a k f p j hok.ids d).mono ?_;rintro e w' ⟨rfl,ρ',m,i⟩;refine ⟨true,rfl,QW.ok (by rw [s,d,D,t];rfl) ?_ (Qdq (by simp)) m i⟩;show R.set (QX R id).toNat { ZG R ⟨5,id,pa,bf,c,tg,nm,a⟩ with ats:=ZE (ZG R ⟨5,id,pa,bf,c,tg,nm,a⟩).ats nm }=_;rw [o,g,Int.toNat_natCast]
 refine (QpV ρ nb mb _ w q R last h 5 id pa bf c tg nm a n u).mono ?_;rintro e w' ⟨rfl,l⟩;exact ⟨false,rfl,QW.no h (by unfold canP;simp [g]) l⟩
theorem QnH (id pa bf c:Int) (tg nm a:ByteArray) (j:Qn.Ok ⟨4,id,pa,bf,c,tg,nm,a⟩) (v:Qg id) (B:pa=0) (hb:bf=0) (C:c=0) (D:tg.toList.isEmpty=true) : Xl 105 #[Xp q,.agg #[Xi 4,Xi id,Xi pa,Xi bf,Xi c,.string tg,.string nm,.string a]] w λe w'=>∃ b,e=.returned (.bool b)/\QW ρ nb mb w q R last ⟨4,id,pa,bf,c,tg,nm,a⟩ b w':=by
 rcases QaH hok.ids id with ⟨k,l,n,r⟩|⟨A,r⟩
 ·have y:ZG R ⟨4,id,pa,bf,c,tg,nm,a⟩=R[k]:=by unfold ZG;rw [r,Int.toNat_natCast,QaM l]
  obtain ⟨G,H,E⟩:=h.node _ (getElem_mem l);have p:canP R last ⟨4,id,pa,bf,c,tg,nm,a⟩=(QR nm&&!R[k].tag.toList.isEmpty&&Zx a&&(Zc R[k].ats nm||decide (R[k].ats.length<5))):=by have m:=QkQ (x:=⟨4,id,pa,bf,c,tg,nm,a⟩) E.rise;subst B hb C;simp [canP,Qeg,D,y,r,Qip,m]
  have o:Qg R[k].id:=by rw [n];exact v
  have z:QU R ⟨4,id,pa,bf,c,tg,nm,a⟩=R.set k { R[k] with ats:=ZZ R[k].ats nm a }:=by show R.set (QX R id).toNat { ZG R ⟨4,id,pa,bf,c,tg,nm,a⟩ with ats:=ZZ (ZG R ⟨4,id,pa,bf,c,tg,nm,a⟩).ats nm a }=_;rw [y,r,Int.toNat_natCast]
  cases d:R[k].tag.toList.isEmpty with
  | true =>refine (Qsb ρ nb mb _ w q R last h 4 id pa bf c tg nm a k l o n d).mono ?_;rintro e w' ⟨rfl,f⟩;exact ⟨false,rfl,QW.no h (by rw [p,d];simp) f⟩
  | false =>
   cases g:QR nm with
   | false =>refine (QpL ρ nb mb _ w q R last h 4 id pa bf c tg nm a k l o n d j.name g).mono ?_;rintro e w' ⟨rfl,f⟩;exact ⟨false,rfl,QW.no h (by rw [p,g];simp) f⟩
   | true =>
    have I:=Qdu g;cases i:Zx a with
    | false =>refine (QoL ρ nb mb _ w q R last h 4 id pa bf c tg nm a k l o n d j.name g j.text i).mono ?_;rintro e w' ⟨rfl,f⟩;exact ⟨false,rfl,QW.no h (by rw [p,i];simp) f⟩
    | true =>
     have F:a.size<=20:=by unfold Zx at i;simpa using i
     cases m:Zc R[k].ats nm with
     | true =>refine (QtQ ρ nb mb _ w q R last h 4 id pa bf c tg nm a k l o n hok.ids d j.name g j.text i (by omega) m).mono ?_;rintro e w' ⟨rfl,ρ',s,t⟩;exact ⟨true,rfl,QW.ok (by rw [p,d,g,i,m];rfl) z (Qdq (by simp)) s t⟩
     | false =>
      by_cases u:R[k].ats.length<5
      ·refine (Qsq ρ nb mb _ w q R last h 4 id pa bf c tg nm a k l o n hok.ids d j.name g j.text i (by omega) (by omega) m u).mono ?_;rintro e w' ⟨rfl,ρ',s,t⟩;exact ⟨true,rfl,QW.ok (by rw [p,d,g,i,m];simp [u]) z (Qdq (by simp)) s t⟩
      refine (Qof ρ nb mb _ w q R last h 4 id pa bf c tg nm a k l o n d j.name g j.text i m (by omega)).mono ?_;rintro e w' ⟨rfl,f⟩;exact ⟨false,rfl,QW.no h (by rw [p,m];simp [u]) f⟩
 refine (Qrd ρ nb mb _ w q R last h 4 id pa bf c tg nm a v A).mono ?_;rintro e w' ⟨rfl,f⟩;exact ⟨false,rfl,QW.no h (by unfold canP;simp [r]) f⟩
theorem QrQ (id pa bf c:Int) (tg nm d:ByteArray) (P:Qg id) (H:Qg pa) (S:Qg bf) (a4:c=0) (a5:tg.toList.isEmpty=true) (L:nm.toList.isEmpty=true) (a6:d.toList.isEmpty=true) : Xl 103 #[Xp q,.agg #[Xi 2,Xi id,Xi pa,Xi bf,Xi c,.string tg,.string nm,.string d]] w λe w'=>∃ b,e=.returned (.bool b)/\QW ρ nb mb w q R last ⟨2,id,pa,bf,c,tg,nm,d⟩ b w':=by
 classical
 obtain ⟨rk,v⟩:=hok.up;obtain ⟨a7,a1,m,_⟩:=hok.root;obtain ⟨r,o,rfl⟩:=getElem_of_mem a1;have y:∀ n,n ∈ R->n.id≠0:=λn L=>by have:=hok.ids.pos n L;omega
 have A:canP R last ⟨2,id,pa,bf,c,tg,nm,d⟩=(decide (0<=QX R id)&&(!(id==1)&&decide (0<=QX R pa)&&!(nth R (QX R pa).toNat).tag.toList.isEmpty&&(!(bf !=0)||(decide (0<=QX R bf)&&!((nth R (QX R bf).toNat).par !=pa)&&!(bf==id)))&&!decide (QbQ R pa id))):=by subst a4;unfold canP insB;simp [a5,L,a6]
 rcases QaH hok.ids id with ⟨k,i,f,B⟩|⟨a2,B⟩
 ·have p:Qg R[k].id:=by rw [f];exact P
  by_cases M:id=1
  ·subst M;refine (QpA ρ nb mb w q R last h 2 pa bf c tg nm d r o m H _ rfl).mono ?_;rintro e w' ⟨rfl,a⟩;exact ⟨false,rfl,QW.no h (by rw [A];simp) a⟩
  have s:R[k].id≠1:=by rw [f];exact M
  rcases QaH hok.ids pa with ⟨t,j,g,F⟩|⟨X,F⟩
  ·have x:Qg R[t].id:=by rw [g];exact H
   have T:(nth R (QX R pa).toNat)=R[t]:=by rw [F,Int.toNat_natCast,QaM j]
   cases l:R[t].tag.toList.isEmpty with
   | true =>refine (QuF ρ nb mb w q R last h 2 id pa bf c tg nm d k i p f r o m s t j x g l).mono ?_;rintro e w' ⟨rfl,a⟩;exact ⟨false,rfl,QW.no h (by rw [A,T,l];simp) a⟩
   | false =>
    cases u:ZM R (rk R[t].id+1) R[t].id R[k].id with
    | true =>
     have J:QbQ R pa id:=by have:=(QlL v hok.ids (y _ (getElem_mem i)) ⟨R[t],getElem_mem j,rfl⟩).1 u;rwa [g,f] at this
     refine (Qm8 ρ nb mb w q R last h 2 id pa bf c tg nm d hok.ids rk v k i p f r o m s t j x g l u).mono ?_;rintro e w' ⟨rfl,a⟩;exact ⟨false,rfl,QW.no h (by rw [A,decide_eq_true J];simp) a⟩
    | false =>
     have J:¬ QbQ R pa id:=by have:=(Qi3 v hok.ids (y _ (getElem_mem i)) ⟨R[t],getElem_mem j,rfl⟩).1 u;rwa [g,f] at this
     have C:canP R last ⟨2,id,pa,bf,c,tg,nm,d⟩=(!(bf !=0)||(decide (0<=QX R bf)&&!((nth R (QX R bf).toNat).par !=pa)&&!(bf==id))):=by rw [A,T,l,decide_eq_false J,B,F];simp [M]
     have U:R[t].id≠R[k].id:=λe=>J ⟨0,by rw [<- g,e,f];rfl⟩;have a3:ZG R ⟨2,id,pa,bf,c,tg,nm,d⟩=R[k]:=by unfold ZG;rw [B,Int.toNat_natCast,QaM i]
     have W:QU R ⟨2,id,pa,bf,c,tg,nm,d⟩=Q6 R { R[k] with par:=R[t].id } k bf:=by show Q6 R { ZG R ⟨2,id,pa,bf,c,tg,nm,d⟩ with par:=pa } (QX R id).toNat bf=_;rw [a3,B,Int.toNat_natCast,g]
     by_cases D:bf=0
     ·subst D;refine (Qs9 ρ nb mb w q R last h 2 id pa c tg nm d hok.ids rk v k i p f r o m s t j x g l u U y).mono ?_;rintro e w' ⟨rfl,ρ',N,K⟩;exact ⟨true,rfl,QW.ok (by rw [C];rfl) W (Qdq (by simp)) N K⟩
     rcases QaH hok.ids bf with ⟨b,a,z,G⟩|⟨Y,G⟩
     ·have O:Qg R[b].id:=by rw [z];exact S
      have V:(nth R (QX R bf).toNat)=R[b]:=by rw [G,Int.toNat_natCast,QaM a]
      by_cases I:R[b].id=R[k].id
      ·have e:bf=id:=by rw [<- z,I,f]
       subst e;refine (Qtc ρ nb mb w q R last h 2 bf pa c tg nm d hok.ids rk v k i p f r o m s t j x g l u (y _ (getElem_mem i))).mono ?_;rintro e w' ⟨rfl,a⟩;exact ⟨false,rfl,QW.no h (by rw [C];simp [D]) a⟩
      have a0:bf≠id:=λe=>I (by rw [z,f,e]);by_cases E:R[b].par=R[t].id
      ·refine (QmT ρ nb mb w q R last h 2 id pa bf c tg nm d hok.ids rk v k i p f r o m s t j x g l u U b a O z I (y _ (getElem_mem a)) E).mono ?_;rintro e w' ⟨rfl,ρ',N,K⟩;rw [z] at K;exact ⟨true,rfl,QW.ok (by rw [C,V,G,E,g];simp [a0]) W (Qdq (by simp)) N K⟩
      refine (Qna ρ nb mb w q R last h 2 id pa bf c tg nm d hok.ids rk v k i p f r o m s t j x g l u b a O z I (y _ (getElem_mem a)) E).mono ?_;rintro e w' ⟨rfl,a⟩;exact ⟨false,rfl,QW.no h (by rw [C,V];rw [g] at E;simp [D,E]) a⟩
     refine (Qtr ρ nb mb w q R last h 2 id pa bf c tg nm d hok.ids rk v k i p f r o m s t j x g l u S D Y).mono ?_;rintro e w' ⟨rfl,a⟩;exact ⟨false,rfl,QW.no h (by rw [C,G];simp [D]) a⟩
  refine (Qum ρ nb mb w q R last h 2 id pa bf c tg nm d k i p f r o m s H X).mono ?_;rintro e w' ⟨rfl,a⟩;exact ⟨false,rfl,QW.no h (by rw [A,F];simp) a⟩
 refine (QoN ρ nb mb w q R last h 2 id pa bf c tg nm d P H a2 _ rfl).mono ?_;rintro e w' ⟨rfl,a⟩;exact ⟨false,rfl,QW.no h (by rw [A,B];simp) a⟩
end
structure Qn.Ints (x:Qn):Prop where
 id:Qg x.id
 par:Qg x.par
 bef:Qg x.bef
theorem Qs8 {R:List RN} {last:Int} {x:Qn} (h:canP R last x=true):Z3 x (QI x)=true:=by
 obtain ⟨a,id,pa,bf,j,tg,nm,k⟩:=x;unfold canP at h;by_cases b:a=1
 ·subst b;rw [Qjn];simp [Qc5] at h;simp [h]
 by_cases c:a=2
 ·subst c;rw [QiQ];simp [insB] at h;simp [h]
 by_cases d:a=3
 ·subst d;rw [Qjc];simp [Qd1] at h;simp [h]
 by_cases f:a=4
 ·subst f;rw [Qi8];simp [Qeg] at h;simp [h]
 by_cases g:a=5
 ·subst g;rw [Qkr];simp [QeA] at h;simp [h]
 by_cases i:a=6
 ·subst i;rw [Qln];simp [Qep] at h;simp [h]
 simp [b,c,d,f,g,i] at h
theorem Qsr (k:Qo) (nb:Int->Nat) (l:Nat) (w:World) (q:Nat) (R:List RN) (last:Int) (h:Qi k nb l (some (nb 1)) w q R last) (n:QE R last) (A:ZA R) (y:last<=4611686018427387904) (x:Qn) (o:x.Ok) (m:x.Ints) : Xl 63 #[Xp q,x.val] w λe w'=>∃ b,e=.returned (.bool b)/\QW k nb l w q R last x b w':=by
 have z:Z3 x (QI x)=false->canP R last x=false:=λe=>by cases B:canP R last x with| false=>rfl| true=>rw [Qs8 B] at e;cases e
 obtain ⟨j,id,pa,bf,c,tg,nm,d⟩:=x;cases f:Z3 ⟨j,id,pa,bf,c,tg,nm,d⟩ (QI ⟨j,id,pa,bf,c,tg,nm,d⟩) with
 | false =>refine (Qnw q j id pa bf c tg nm d w f).mono ?_;rintro e w' ⟨rfl,hb⟩;exact ⟨false,rfl,QW.no h (z f) hb⟩
 | true =>
  by_cases p:j=1
  ·subst p;have a:=f;rw [Qjn] at a;simp only [Bool.and_eq_true,beq_iff_eq] at a;refine Qn9 q id pa bf c tg nm d w f _ λw1 hb=>?_;refine (Qu3 k nb l w1 q R last (h.below hb) n y id pa bf c tg nm d o a.1.1 a.1.2 a.2).mono ?_;rintro e w' ⟨b,g,i⟩;exact ⟨b,g,i.after hb⟩
  by_cases r:j=2
  ·subst r;have a:=f;rw [QiQ] at a;simp only [Bool.and_eq_true,beq_iff_eq] at a;refine Qrw q id pa bf c tg nm d w f _ λw1 hb=>?_;refine (QrQ k nb l w1 q R last (h.below hb) n id pa bf c tg nm d m.id m.par m.bef a.1.1.1 a.1.1.2 a.1.2 a.2).mono ?_;rintro e w' ⟨b,g,i⟩;exact ⟨b,g,i.after hb⟩
  by_cases s:j=3
  ·subst s;have a:=f;rw [Qjc] at a;simp only [Bool.and_eq_true,beq_iff_eq] at a;refine QpT q id pa bf c tg nm d w f _ λw1 hb=>?_;refine (QmV k nb l w1 q R last (h.below hb) n y id pa bf c tg nm d m.id a.1.1.1.1.1 a.1.1.1.1.2 a.1.1.1.2 a.1.1.2 a.1.2 a.2).mono ?_;rintro e w' ⟨b,g,i⟩;exact ⟨b,g,i.after hb⟩
  by_cases t:j=4
  ·subst t;have a:=f;rw [Qi8] at a;simp only [Bool.and_eq_true,beq_iff_eq] at a;refine Qq6 q id pa bf c tg nm d w f _ λw1 hb=>?_;refine (QnH k nb l w1 q R last (h.below hb) n id pa bf c tg nm d o m.id a.1.1.1 a.1.1.2 a.1.2 a.2).mono ?_;rintro e w' ⟨b,g,i⟩;exact ⟨b,g,i.after hb⟩
  by_cases u:j=5
  ·subst u;have a:=f;rw [Qkr] at a;simp only [Bool.and_eq_true,beq_iff_eq] at a;refine QrL q id pa bf c tg nm d w f _ λw1 hb=>?_;refine (Qoj k nb l w1 q R last (h.below hb) n A id pa bf c tg nm d m.id a.1.1.1.1 a.1.1.1.2 a.1.1.2 a.1.2 a.2).mono ?_;rintro e w' ⟨b,g,i⟩;exact ⟨b,g,i.after hb⟩
  by_cases v:j=6
  ·subst v;have a:=f;rw [Qln] at a;simp only [Bool.and_eq_true,beq_iff_eq] at a;refine Qn5 q id pa bf c tg nm d w f _ λw1 hb=>?_;refine (QnK k nb l w1 q R last (h.below hb) n id pa bf c tg nm d o m.id a.1.1.1.1 a.1.1.1.2 a.1.1.2 a.1.2 a.2).mono ?_;rintro e w' ⟨b,g,i⟩;exact ⟨b,g,i.after hb⟩
  refine (QpE q j id pa bf c tg nm d w f p r s t u v).mono ?_;rintro e w' ⟨rfl,hb⟩;exact ⟨false,rfl,QW.no h (by unfold canP;simp [p,r,s,t,u,v]) hb⟩
theorem ZA.put {R:List RN} (c:ZA R) {k:Nat} {n:RN} (h:∀ a,a ∈ n.ats->QR a.1=true/\n.tag.toList.isEmpty=false):ZA (R.set k n):=λm b=>by
 rcases mem_or_eq_of_mem_set b with b|rfl
 ·exact c m b
 exact h
theorem ZA.did {R:List RN} {last:Int} {x:Qn} (o:Qp R) (f:ZA R) (c:canP R last x=true):ZA (QU R x):=by
 by_cases p:(x.kind==1)=true
 ·unfold QU;rw [if_pos p];intro m d;rcases mem_append.1 d with d|d
  ·exact f m d
  rw [mem_singleton.1 d];intro a g;cases g
 unfold canP at c;rw [if_neg p] at c;simp only [Bool.and_eq_true,decide_eq_true_eq] at c;obtain ⟨⟨⟨z,_⟩,_⟩,c⟩:=c;obtain ⟨k,l,A,t⟩:∃ k,∃ l:k<R.length,R[k].id=x.id/\QX R x.id=(k:Int):=by
  rcases QaH o x.id with h|⟨_,h⟩
  ·exact h
  omega
 have u:ZG R x=R[k]:=by unfold ZG;rw [t,Int.toNat_natCast,QaM l]
 have j:=f _ (getElem_mem l);unfold QU;rw [if_neg p,u,t,Int.toNat_natCast];by_cases n:(x.kind==2)=true
 ·rw [if_pos n];rw [if_pos n] at c;intro m d;have hb:x.bef=0 \/ ∃ i,i<R.length/\Qj R i=x.bef:=by
   by_cases v:x.bef=0
   ·exact .inl v
   right;unfold insB at c;simp [v] at c;rcases QaH o x.bef with ⟨b,hb,y,_⟩|⟨_,h⟩
   ·exact ⟨b,hb,by rw [QS hb,y]⟩
   omega
  rcases Qfk o l hb m d with d|rfl
  ·exact f m d
  exact j
 rw [if_neg n];rw [if_neg n] at c;by_cases q:(x.kind==3)=true
 ·rw [if_pos q];intro m d;exact f m (Qsj d)
 rw [if_neg q];rw [if_neg q] at c;by_cases r:(x.kind==6)=true
 ·rw [if_pos r];exact f.put j
 rw [if_neg r];rw [if_neg r] at c;by_cases s:(x.kind==4)=true
 ·rw [if_pos s];rw [if_pos s,u] at c;unfold Qeg at c;simp only [Bool.and_eq_true,Bool.not_eq_true'] at c;refine f.put λa g=>?_;rcases QfK g with g|rfl
  ·exact j a g
  exact ⟨c.2.1.1.1,c.2.1.1.2⟩
 rw [if_neg s];exact f.put λa g=>j a (QlY g)
theorem QE.bare {R:List RN} {last:Int}:QE (JM R) last↔QE R last:=by
 constructor
 ·rintro ⟨b,⟨rk,c⟩,d,n,a,f,g⟩;obtain ⟨m,h,rfl⟩:=Qaq.1 a;exact ⟨QiT.1 b,⟨rk,QjR.1 c⟩,λn a=>(d n.bare (Qaq.2 ⟨n,a,rfl⟩):n.id<=last),m,h,f,g⟩
 rintro ⟨b,⟨rk,c⟩,d,n,a,f,g⟩;refine ⟨QiT.2 b,⟨rk,QjR.2 c⟩,λn a=>?_,n.bare,Qaq.2 ⟨n,a,rfl⟩,f,g⟩;obtain ⟨m,h,rfl⟩:=Qaq.1 a;exact d m h
theorem QE.did {R:List RN} {last:Int} {x:Qn} (h:QE R last) (a:canP R last x=true):QE (QU R x) (Jr last x):=by
 classical
 have f:=h.ids;obtain ⟨rk,j⟩:=h.up;by_cases d:(x.kind==1)=true
 ·unfold QU Jr;rw [if_pos d,if_pos d];unfold canP at a;rw [if_pos d] at a;unfold Qc5 at a;simp only [Bool.and_eq_true,beq_iff_eq] at a;exact h.more (n:=QfP x) (show last<x.id by omega) rfl
 unfold canP at a;rw [if_neg d] at a;simp only [Bool.and_eq_true,decide_eq_true_eq] at a;obtain ⟨⟨⟨D,_⟩,_⟩,a⟩:=a;obtain ⟨k,c,i,m⟩:∃ k,∃ c:k<R.length,R[k].id=x.id/\QX R x.id=(k:Int):=by
  rcases QaH f x.id with h|⟨_,h⟩
  ·exact h
  omega
 have s:ZG R x=R[k]:=by unfold ZG;rw [m,Int.toNat_natCast,QaM c]
 unfold QU Jr;rw [if_neg d,if_neg d,s,m,Int.toNat_natCast];by_cases g:(x.kind==2)=true
 ·rw [if_pos g];rw [if_pos g] at a;unfold insB at a;simp only [Bool.and_eq_true,Bool.not_eq_true',decide_eq_true_eq,decide_eq_false_iff_not] at a;obtain ⟨⟨⟨⟨⟨_,u⟩,E⟩,_⟩,v⟩,A⟩:=a;obtain ⟨t,B,y,_⟩:∃ k,∃ c:k<R.length,R[k].id=x.par/\QX R x.par=(k:Int):=by
   rcases QaH f x.par with h|⟨_,h⟩
   ·exact h
   omega
  have o:∃ n,n ∈ R/\n.id=x.par:=⟨R[t],getElem_mem B,y⟩;have C:=f.pos _ (getElem_mem c);refine h.ins j c (by rw [i];simpa using u) ?_ o ((Qi3 j f (by omega) o).2 (by rw [i];exact A));by_cases p:x.bef=0
  ·exact .inl p
  right;simp [p] at v;rcases QaH f x.bef with ⟨b,hb,z,_⟩|⟨_,h⟩
  ·exact ⟨b,hb,by rw [QS hb,z]⟩
  omega
 rw [if_neg g];rw [if_neg g] at a;by_cases l:(x.kind==3)=true
 ·rw [if_pos l];rw [if_pos l] at a;unfold Qd1 at a;simp only [Bool.and_eq_true,Bool.not_eq_true'] at a;exact h.rem (QaA j c) c (by rw [i];simpa using a.2.2)
 rw [if_neg l];by_cases q:(x.kind==6)=true
 ·rw [if_pos q];exact h.put c rfl rfl
 rw [if_neg q];by_cases r:(x.kind==4)=true
 ·rw [if_pos r];exact h.put c rfl rfl
 rw [if_neg r];exact h.put c rfl rfl
def QP (R:List RN) (last:Int) (X:Nat->Qn):Nat->List RN × Int
 | 0=>(R,last)
 | k+1=>(QU (QP R last X k).1 (X k),Jr (QP R last X k).2 (X k))
def Qam (R:List RN) (last:Int) (X:Nat->Qn) (k:Nat):Prop:=∀ j,j<k->canP (QP R last X j).1 (QP R last X j).2 (X j)=true
theorem Qam.zero (R:List RN) (last:Int) (X:Nat->Qn):Qam R last X 0:=λ_ h=>absurd h (Nat.not_lt_zero _)
theorem Qam.succ {R:List RN} {last:Int} {X:Nat->Qn} {k:Nat} (h:Qam R last X k) (b:canP (QP R last X k).1 (QP R last X k).2 (X k)=true):Qam R last X (k+1):=λj a=>by
 rcases Nat.lt_succ_iff_lt_or_eq.1 a with a|rfl
 ·exact h j a
 exact b
theorem QtO {R:List RN} {last:Int} {x:Qn} (a:canP R last x=true):Jr last x=last \/ Jr last x=last+1:=by
 unfold Jr;by_cases b:(x.kind==1)=true
 ·rw [if_pos b];unfold canP at a;rw [if_pos b] at a;unfold Qc5 at a;simp only [Bool.and_eq_true,beq_iff_eq] at a;right;omega
 rw [if_neg b];exact .inl rfl
theorem Qam.ok {R:List RN} {last:Int} {X:Nat->Qn} (h:QE R last) (d:ZA R):∀ {k:Nat},Qam R last X k->QE (QP R last X k).1 (QP R last X k).2/\ZA (QP R last X k).1/\(QP R last X k).2<=last+k:=by
 intro k;induction k with
 | zero=>intro _;exact ⟨h,d,by simp [QP]⟩
 | succ k ih =>intro b;obtain ⟨c,f,g⟩:=ih λj i=>b j (by omega);have a:=b k (by omega);refine ⟨c.did a,f.did c.ids a,?_⟩;show Jr _ _<=_;rcases QtO a with e|e<;>rw [e]<;>omega

def Qt (l:List Int):List Value:=l.map λi=>Xi i
theorem Qap (l:List Int):(Qt l).length=l.length:=by unfold Qt;simp
theorem QeQ (l:List Int) (i:Int):Qt (l++[i])=Qt l++[Xi i]:=by unfold Qt;simp
theorem Qgd {w w':World} {b:Nat} (h:w'.heap[b]?=w.heap[b]?) (a:Nat):w'.frozen? (Xa b a)=w.frozen? (Xa b a):=by simp only [World.frozen?,h]
theorem QsC {w:World} {D f d:Nat} {v:Value} {xs:List Int} (i:Int) (p:Xc w D 0 v) (q:Xf w D 0) (r:Xc w f 0 (Xi i)) (G:D<d) (J:f<d) (a0:d<=w.heap.size) (a1:xs.length<=800) (h:w.ownsRow d 3 1 v xs.length (Qt xs)) : Xl 66 #[Xp f,Xp D] w λe w'=>e=.returned (.tuple #[])/\∃ s,w'.cell? (Xa D 0)=some s/\w'.frozen? (Xa D 0)=false/\w'.ownsRow d 3 1 s (xs++[i]).length (Qt (xs++[i]))/\w.heap.size<=w'.heap.size/\(∀ b,b<d->b≠D->w'.heap[b]?=w.heap[b]?)/\w'.os=w.os/\w'.tape=w.tape/\w'.output=w.output:=by
 obtain ⟨P,R,K,L,M⟩:=info_parts Qds;obtain ⟨ao,c,rfl⟩:=Qz h;have a2:(Value.slice ao xs.length c).ownBlock=none \/ (Value.slice ao xs.length c).ownBlock≠some D:=by cases hb:(Value.slice ao xs.length c).ownBlock with| none=>exact .inl rfl| some b=>right;intro e;have:=(h.lt b hb).1;cases e;omega
 have a3:(Value.slice ao xs.length c).ownBlock=none \/ (Value.slice ao xs.length c).ownBlock≠some f:=by cases hb:(Value.slice ao xs.length c).ownBlock with| none=>exact .inl rfl| some b=>right;intro e;have:=(h.lt b hb).1;cases e;omega
 have B:=Qa h;clear h;go_enter Tryz.func66,Tryz.ntmps66;have C:(λw'=>Xf w' D 0/\Xc w' D 0 (.slice ao xs.length c)/\Xc w' f 0 (Xi i)) w.drew:=⟨q,p,r⟩;refine Zm (S:=(λw'=>w'.frozen? (Xa D 0)=false/\w'.cell? (Xa D 0)=some (.slice ao xs.length c)/\w'.cell? (Xa f 0)=some (Xi i))) (by kernel_rfl) ?_;iterate 5
  apply Q0 ?_ C ?_;rotate_left
  ·(intro w' hSw;(try dsimp only at hSw);simp only [Xq];go_simp;try (with_reducible rfl))
  simp only [Xq,Xr]
 refine Qq 5 ?_;simp only [Xq];go_simp;generalize l:w.alloc (.cells #[Xi i] 3)=w1;have g:=Xt l;have a4:=X1 l;have A:∀ a,some ((Xa w.heap.size 0):Addr)=some a->∀ j u,[Value.int .i64 i][j]?=some u->w1.cell? (a.add j)=some u:=by rw [<- l];exact Z9 w #[Xi i] 3
 have t:=(Xh g D 0 (by (try simp);omega)).trans p;have y:=(Xh g f 0 (by (try simp);omega)).trans r;have z:=(Xj g D 0 (by (try simp);omega)).trans q;refine ⟨.inr ⟨z,t,y⟩,?_⟩;clear l C p r q;refine Qq 6 ?_;simp only [Xq];refine Qcs w1.drew _ _ 23 (by rfl) d 3 P _ 1 8 Tryz.underlying23 R K L M rfl (.slice ao xs.length c) xs.length (Qt xs) (by rfl) (Zi B.out g.drew) (some (Xa w.heap.size 0)) 1 1 [Xi i] (by rfl) (by simp) rfl (λa T j u U=>A a T j u U) (by simp [Value.oneCell']) (by omega) (by omega) (show d<=w1.heap.size by omega) ?_;intro s w2 n o;obtain ⟨V,W,rfl⟩:=Qz n;have E:∀ b,Value.ownBlock (.slice ao xs.length c)=some b->d<=b:=λb e=>(B.out.lt b e).1;have k:∀ b,b<w1.heap.size->b<d->w2.heap[b]?=w1.heap[b]?:=λb hb a5=>o.by.block b hb (λe=>by have:=E b e.symm;omega);have H:=(Xk D 0 (k D (by omega) G)).trans t;have X:=(Xk f 0 (k f (by omega) J)).trans y;have I:=(Xm D 0 (k D (by omega) G)).trans z;refine ⟨.inr ⟨I,H,X⟩,?_⟩;have F:=Qa n;have m:=Qa o;have N:=Qa k;clear n o k t y z A E;try simp only [Xr]
 refine Qq 7 ?_;simp only [Xq];go_simp;refine ⟨by kernel_rfl,?_⟩;refine Zk (by kernel_rfl) ?_ _;refine bodyPost_end (results_none rfl _ _ _) rfl ⟨rfl,.slice V (xs.length+1) W,?_,?_,?_,?_,?_,?_,?_,?_⟩
 ·exact World.cell?_setCell_same _ _ _ H
 ·rw [World.frozen?_setCell];exact I
 ·rw [QeQ];exact QT F.out λb Y=>Below.heap_setCell _ _ _ _ (λx=>by have x:b=D:=x;have:=(F.out.lt b Y).1;omega)
 ·rw [ZL];have:=m.out.size;have a6:w1.drew.heap.size=w1.heap.size:=rfl;omega
 ·intro b hb O;rw [Below.heap_setCell _ _ _ _ (λx=>O x),N.out b (by omega) hb,g.block b (by omega)]
 ·exact m.out.by.os.trans g.os
 ·exact m.out.by.tape.trans g.tape
 exact m.out.by.output.trans g.output
theorem Qux {R:List RN} (b:Qp R) {L:List Int} (a:L.Nodup) (h:∀ x,x ∈ L->∃ n,n ∈ R/\n.id=x):L.length<=R.length:=by
 have:=Qk0 b.nodup a λx c=>by obtain ⟨n,a,e⟩:=h x c;exact mem_map.2 ⟨n,a,e⟩
 omega
def QiB (R:List RN) (w:World) (D c:Nat) (a:List Int) (w':World):Prop :=
 (a.Nodup/\∀ x,x ∈ a->∃ n,n ∈ R/\n.id=x)/\∃ v,w'.cell? (Xa D 0)=some v/\w'.frozen? (Xa D 0)=false/\w'.ownsRow c 3 1 v a.length (Qt a)/\c<=w'.heap.size/\(∀ b,b<c->b≠D->w'.heap[b]?=w.heap[b]?)/\w'.os=w.os/\w'.tape=w.tape/\w'.output=w.output
theorem QnJ {r:Qo} {nb:Int->Nat} {M:Nat} {N:Option Nat} {w:World} {q:Nat} {R:List RN} {last:Int} {k:Nat} (h:Qi r nb M N w q R last) (s:Qp R) (m:∃ rk,Up R rk) (B:k<R.length) {D:Nat} (O:Xc w D 0 Xv) (P:Xf w D 0) (S:D<w.heap.size) (F:r D=none) : Xl 65 #[Xp (nb R[k].id),.func (.func 66) #[] #[Xp D]] w λe w'=>e=.returned (.tuple #[])/\QiB R w D w.heap.size (Qv R R.length k) w':=by
 obtain ⟨rk,m⟩:=m;have t:=QaA m B;obtain ⟨T,U,E⟩:=h.kids_read;have p:∀ b j,(∃ i:Int,r b=some (i,j))->b<w.heap.size/\b≠D:=λb j hb=>by obtain ⟨i,e⟩:=hb;refine ⟨h.low b (by rw [e];rfl),λe'=>?_⟩;rw [e',F] at e;cases e
 rw [<- QS B];refine (Qut R nb D (QiB R w D w.heap.size) T U h.few ?_ ?_ s.pos R.length k [] w t (Qji m s t) (λ_ _ h=>by simp at h) ⟨⟨nodup_nil,λ_ h=>by simp at h⟩,Xv,O,P,World.ownsRow_nil _ _ _ _,Nat.le_refl _,λ_ _ _=>rfl,rfl,rfl,rfl⟩:Calls _ _ _ _ _).mono ?_
 ·rintro G w1 ⟨_,v,_,_,_,_,hb,_⟩ n f;obtain ⟨V,W⟩:=E n f;obtain ⟨X,Y,o⟩:=h.node n f;obtain ⟨d,l⟩:=p _ 0 ⟨_,o.role⟩;refine ⟨(World.cell?_of_block (hb _ d l)).trans V,λi x c=>?_⟩;obtain ⟨g,e,a0,a1⟩:=W i x c;obtain ⟨d,l⟩:=p _ 2 ⟨_,a0⟩;exact ⟨g,e,(World.cell?_of_block (hb g d l)).trans a1⟩
 ·rintro G w1 n f H ⟨⟨u,y⟩,v,a2,a3,a4,a5,hb,I,J,K⟩;obtain ⟨X,Y,o⟩:=h.node n f;obtain ⟨d,l⟩:=p _ 0 ⟨_,o.role⟩;have ae:=h.few;have af:=Qux s u y;refine (QsC n.id a2 a3 ((World.cell?_of_block (hb _ d l)).trans (Qf o.blk 0 _ rfl)) S d a5 (by omega) a4).mono ?_;rintro e w2 ⟨rfl,a6,a7,a8,a9,ag,L,aa,ab,ac⟩;refine ⟨rfl,⟨?_,λx c=>?_⟩,a6,a7,a8,a9,by omega,λb z A=>(L b z A).trans (hb b z A),aa.trans I,ab.trans J,ac.trans K⟩
  ·rw [nodup_append];exact ⟨u,by simp,λa ad b hb e=>by rw [mem_singleton.1 hb] at e;exact H (e▸ad)⟩
  rcases mem_append.1 c with c|c
  ·exact y x c
  exact ⟨n,f,(mem_singleton.1 c).symm⟩
 rintro e w' ⟨rfl,C⟩;rw [nil_append] at C;exact ⟨rfl,C⟩
theorem Qla (l:Qo) (nb:Int->Nat) (s:Nat) (w:World) (q:Nat) (R:List RN) (last:Int) (h:Qi l nb s (some (nb 1)) w q R last) (f:QE R last) (r:Nat) (t:r<R.length) (j:R[r].id=1) : Xl 38 #[Xp q] w λe w'=>∃ v,e=.returned v/\w'.ownsRow w.heap.size 3 1 v (Qv R R.length r).length (Qt (Qv R R.length r))/\Xb w w':=by
 have I:=Qf h.blk 0 (Xp (nb 1)) rfl;have H:=QN h.blk;have m:Hid (∀ w1,Xb w w1->w1.cell? (Xa w.heap.size 0)=some Xv->w1.frozen? (Xa w.heap.size 0)=false->w.heap.size<w1.heap.size->Xl 65 #[Xp (nb 1),.func (.func 66) #[] #[Xp w.heap.size]] w1 λe w'=>e=.returned (.tuple #[])/\QiB R w1 w.heap.size w1.heap.size (Qv R R.length r) w'):=Qa λw1 hb u y z=>by rw [<- j];refine QnJ (h.below hb) f.ids f.up t u y z ?_;cases n:l w.heap.size with| none=>rfl| some x=>have:=h.low w.heap.size (by rw [n];rfl);omega
 clear h f j;go_enter Tryz.func38,Tryz.ntmps38;go_wp2_with fail;generalize d:w.alloc (.cells #[Xv] 23)=g;have a:=Xt d;have o:w.heap.size<g.heap.size:=by rw [<- d];simp
 have A:=Xz d 0 Xv rfl;have B:g.frozen? (Xa w.heap.size 0)=false:=by rw [<- d];simp [go_sem]
 clear d;refine (m.out g a A B o).mono ?_;rintro e w2 ⟨rfl,_,v,J,C,i,K,k,D,E,F⟩;obtain ⟨ao,c,rfl⟩:=Qz i;have G:=Qa i;have p:=Qa k;clear i k C;go_wp2;go_ret;refine ⟨_,rfl,Qbv G.out a.size,D.trans a.os,E.trans a.tape,F.trans a.output,by omega,λb hb=>?_⟩;exact (p.out b (by omega) (by omega)).trans (a.block b hb)

def QG (Ns:List (Value × List TN)):List TN:=Ns.flatMap (·.2)
theorem Qr9 (M a:List TN):ZT (M++a)=ZT M++ZT a:=by unfold ZT;rw [flatMap_append]
theorem Qnr (b:List TN):∀ u ∈ ZT b,u.oneCell'=true:=λu a=>by obtain ⟨n,_,h⟩:=mem_flatMap.1 a;exact n.cells_one u h
theorem Qj1 {Ns:List (Value × List TN)} {j:Nat} (a:j<Ns.length):QG (Ns.take (j+1))=QG (Ns.take j)++Ns[j].2:=by unfold QG;rw [take_succ_eq_append_getElem a,flatMap_append];simp
theorem QpR {Ns:List (Value × List TN)} (j:Nat):(QG (Ns.take j)).length<=(QG Ns).length:=by
 unfold QG;conv=>rhs;rw [<- take_append_drop j Ns,flatMap_append,length_append]
 omega
theorem QfF (s:Nat) (w:World) (c:TN) (E:Option Addr) (al:Nat) (Ns:List (Value × List TN)) (m:Nat) (P:Ns.length=m) (ap:s<=w.heap.size) (H:∀ j,(B:j<Ns.length)->∃ x,E=some (Xa x 0)/\w.cell? (Xa x j)=some Ns[j].1) (J:∀ a,E=some a->a.block<w.heap.size) (D:∀ j,(B:j<Ns.length)->ZB s w Ns[j].1 Ns[j].2) (R:c.Ok s w Xv) (I:(c::QG Ns).Pairwise λm n=>n.av.ownBlock=none \/ n.av.ownBlock≠m.av.ownBlock) (aG:(QG Ns).length<=1000000) (aK:m<=1000000) : Xl 73 #[.agg #[Xi c.d,.string c.tag,Xi c.key,.slice c.ao c.an c.ac,.string c.text],.slice E m al] w λe w'=>∃ q,e=.returned q/\ZB s w' q (c::QG Ns)/\Xb w w'/\∀ b,q.ownBlock=some b->w.heap.size<=b:=by
 obtain ⟨aq,ar,a6,a7,a8⟩:=info_parts Qsg;have a4:Hid (∀ (w':World) (v:Value),w'.ownsRow w.heap.size 47 5 v (c::QG Ns).length (ZT (c::QG Ns))->Xb w w'->ZB s w' v (c::QG Ns)/\Xb w w'/\∀ b,v.ownBlock=some b->w.heap.size<=b):=Qa λw' v f hb=>by
  refine ⟨⟨Qbv f ap,λn y=>?_,I⟩,hb,λb e=>(f.lt b e).1⟩;have h:∃ q,n.Ok s w q:=by
   rcases mem_cons.1 y with rfl|y
   ·exact ⟨_,R⟩
   obtain ⟨p,au,y⟩:=mem_flatMap.1 y;obtain ⟨j,B,rfl⟩:=getElem_of_mem au;exact ⟨_,(D j B).node n y⟩
  obtain ⟨q,h⟩:=h;refine ⟨h.an,h.tag,h.text,Zi h.row hb,h.size,?_⟩;cases aw:n.av.ownBlock with| none=>exact .inl rfl| some b =>right;intro e;have aL:=(h.row.lt b aw).2;have aM:=(f.lt b e.symm).1;omega
 have a0:=Qa H;have a9:=Qa J;have a1:=Qa D;clear H J D R I;have S:=Qa P;clear P;go_enter Tryz.func73,Tryz.ntmps73;go_wp2_with fail;generalize z:World.alloc (World.alloc _ _) _=F;have K:Xb w F:=by rw [<- z];exact Xn
 have aH:F.heap.size=w.heap.size+1+1:=by rw [<- z];simp
 have L:F.ownsRow w.heap.size 47 5 (Xe (w.heap.size+1) 1 1) 1 (ZT [c]):=by
  refine ⟨rfl,.inr ⟨w.heap.size+1,1,#[Xi c.d,.string c.tag,Xi c.key,.slice c.ao c.an c.ac,.string c.text],rfl,by omega,?_,Nat.le_refl _,by decide,rfl,rfl⟩⟩;have r:(w.alloc (.cells #[Xi c.d,.string c.tag,Xi c.key,.slice c.ao c.an c.ac,.string c.text] 47)).heap.size=w.heap.size+1:=by simp
  have C:=heap_alloc_new (w.alloc (.cells #[Xi c.d,.string c.tag,Xi c.key,.slice c.ao c.an c.ac,.string c.text] 47)) (.cells #[Xi c.d,.string c.tag,Xi c.key,.slice c.ao c.an c.ac,.string c.text] 47);rw [r] at C;rw [<- z];exact C
 have aa:=Qa L;have ab:=Qa K;clear z L K;go_loopw [5,7,12] (λl _ i wr=>∃ (j:Nat) (v:Value),j<=m/\v=l/\i=Xi j/\Hid (wr.ownsRow w.heap.size 47 5 v (c::QG (Ns.take j)).length (ZT (c::QG (Ns.take j))))/\Hid (Xb w wr)) (λ_ _ i _=>m-(intOf i).toNat);·exact ⟨0,_,Nat.zero_le _,rfl,rfl,aa,ab⟩
 case round =>
  obtain ⟨j,v,B,rfl,rfl,f,t⟩:=hrel;by_cases aI:j<m
  ·have A:j<Ns.length:=by have:=S.out;omega
   obtain ⟨x,M,T⟩:=a0.out j A;have ad:=a9.out _ M;subst M;have ax:Xc wr x j Ns[j].1:=(Xh t.out x j ad).trans T;have o:=(a1.out j A).row;obtain ⟨ao,ac,U⟩:=Qz o;rw [U] at ax o;have aJ:(j:Int)<(m:Int):=by omega
   have ae:(QG (Ns.take j)).length+Ns[j].2.length<=1000000:=by have:=QpR (Ns:=Ns) (j+1);rw [Qj1 A,length_append] at this;omega
   have a2:Hid (∀ a,ao=some a->∀ k u,(ZT Ns[j].2)[k]?=some u->wr.cell? (a.add k)=some u):=Qa λa G k u V=>by
    have W:=(List.getElem?_eq_some_iff.1 V).1;rw [o.1] at W;rcases o.2 with ⟨e,_⟩|⟨g,cap,af,e,_⟩
    ·rw [G] at e;cases e
    rw [G] at e;have e:=(Value.slice.inj e).1;have e:=Option.some.inj e;subst e;rw [G] at o;have ag:=Zi o t.out;have:=ag.cellAt k W;rw [V] at this;have ay:((Xa g 0):Addr).add k=(Xa g k):=by
     by_cases N:k=0
     ·subst N;simp [Addr.add]
     simp [Addr.add,N]
    rw [ay];exact this
   have a3:Hid (ao=none->Ns[j].2.length=0/\ac=0):=Qa λe=>by
    rcases o.2 with ⟨r,C⟩|⟨g,cap,af,r,_⟩
    ·exact ⟨C,(Value.slice.inj r).2.2⟩
    rw [e] at r;cases (Value.slice.inj r).1
   have az:Hid ((ZT Ns[j].2).length=Ns[j].2.length*5):=Qa (Qtk _);have ah:=t.out.size;have O:(c::QG (Ns.take j)).length=(QG (Ns.take j)).length+1:=rfl;have X:Hid (ZT (c::QG (Ns.take j))++ZT Ns[j].2=ZT (c::QG (Ns.take (j+1)))/\(c::QG (Ns.take j)).length+Ns[j].2.length=(c::QG (Ns.take (j+1))).length):=Qa (by rw [Qj1 A,<- Qr9];refine ⟨rfl,?_⟩;rw [<- cons_append,length_append]);have aF:(c::QG (Ns.take j)).length+Ns[j].2.length<=1000001:=by rw [O];omega
   clear o U T O ae;have a5:=Qa (Qnr Ns[j].2);generalize Ns[j].2=Y at *;generalize (c::QG (Ns.take j)).length=aA at *;generalize Y.length=aB at *;go_wp2_with (first|(at_builtin;refine Jf _ rfl (.tmp 16) (.tmp 17) 41 rfl w.heap.size 47 aq _ 5 72 Tryz.underlying41 ar a6 a7 a8 rfl v aA _ rfl (Qb f) ao aB ac (ZT Y) rfl (Qb a3) (Qb az) (Qb a2) (Qb a5) (by omega) (by omega) (by omega) ?_;intro aC w2 ai aj _));refine ⟨⟨j+1,aC,by omega,rfl,by go_num,Qa (by rw [<- X.out.1,<- X.out.2];exact ai.out),Qa ?_⟩,by simp [intOf];omega⟩;exact t.out.grown aj.out.by ah (λb hb=>(f.out.lt b hb).1)
  have ak:j=m:=by omega
  subst ak;have aD:Hid (wr.ownsRow w.heap.size 47 5 v (c::QG Ns).length (ZT (c::QG Ns))):=by rw [<- S.out,take_length] at f;exact f
  have aE:=Qa (a4.out wr v aD.out t.out);go_wp2;go_ret;exact ⟨_,rfl,aE.out⟩
end Go.Proofs.YtobgcaemnpkbmaaGreatDoor
