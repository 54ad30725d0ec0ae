import Derived.Test.YtobgcaemnpkbmaaGreatDoorC30
import Derived.Lib.ItoaLen
import Derived.Shelf.Strconv.Itoa3
import Derived.Test.YtobgcaemnpkbmaaGreatDoorC16
namespace Go.Proofs.YtobgcaemnpkbmaaGreatDoor
set_option maxRecDepth 100000
set_option maxHeartbeats 8000000
open Go.RowKit List Go.Shelf
structure Pn where
 d:Int
 tag:ByteArray
 key:Int
 text:ByteArray
 ats:List (ByteArray × ByteArray)
def TN.pn (n:TN):Pn:=⟨n.d,n.tag,n.key,n.text,n.ats⟩
def QZ (n:Int):ByteArray:=⟨(Lib.itoa n).toArray⟩
def JY (x:Pc):List (ByteArray × ByteArray):=(if x.fa≠0 then [(⟨#[97]⟩,QZ x.fa)] else [])++(if x.fb≠0 then [(⟨#[98]⟩,QZ x.fb)] else [])++(if x.fc≠0 then [(⟨#[99]⟩,QZ x.fc)] else [])
def Z4 (d n:Int):List Pn:=[⟨d,⟨#[105]⟩,100+n,⟨#[]⟩,[]⟩,⟨d+1,⟨#[]⟩,0,QZ n,[]⟩]
def QbC (C:Nat->Pc) (k:Nat) (d:Int):Pn:=⟨d,⟨#[99]⟩,k,⟨#[]⟩,JY (C k)⟩
def Q9 (C:Nat->Pc) (p j:Nat):Bool:=(C j).on&&(C j).par==(p:Int)
def ZC (C:Nat->Pc):Nat->Nat->Int->List Pn
 | 0,_,_=>[]
 | f+1,k,d=>QbC C k d::((C k).ns.flatMap (Z4 (d+1))++(List.range 21).flatMap λj=>if Q9 C k j then ZC C f j (d+1) else [])
def Z2 (C:Nat->Pc) (f p:Nat) (d:Int):List Pn:=(List.range 21).flatMap λj=>if Q9 C p j then ZC C f j d else []
def Qcu (v:Int):Pn:=⟨0,⟨#[117,105]⟩,0,⟨#[]⟩,[(⟨#[118]⟩,QZ v)]⟩
def QJ (C:Nat->Pc) (v:Int):List Pn:=Qcu v::Z2 C 5 0 1
theorem QdG (C:Nat->Pc) (f k:Nat) (d:Int):ZC C (f+1) k d=QbC C k d::((C k).ns.flatMap (Z4 (d+1))++Z2 C f k (d+1)):=by rw [ZC];rfl
/-! Numerals. -/
theorem Qiu:∀ (k u:Nat),u<10 ^ (k+1)->Lib.nDigits u<=k+1
 | 0,u,h=>by rw [Lib.nDigits_small (by simpa using h)];exact Nat.le_refl _
 | k+1,u,h=>by
  by_cases a:u<10
  ·rw [Lib.nDigits_small a];omega
  rw [Lib.nDigits_big a];have:=Qiu k (u / 10) (by rw [Nat.pow_succ] at h;omega);omega
theorem QuT {n:Int} (h:Qg n):(Lib.itoa n).length<=20:=by
 obtain ⟨b,c⟩:=h;by_cases a:n<0
 ·obtain ⟨u,rfl⟩:∃ u:Nat,n=-(u:Int):=⟨n.natAbs,by omega⟩;rw [Lib.itoa_neg u (by omega),length_cons,Lib.decDigits_length];have:=Qiu 18 u (by show u<10000000000000000000;omega);omega
 obtain ⟨u,rfl⟩:∃ u:Nat,n=u:=⟨n.toNat,by omega⟩;rw [Lib.itoa_nonneg,Lib.decDigits_length];have:=Qiu 18 u (by show u<10000000000000000000;omega);omega
def Qh6 (l:List UInt8):Nat:=l.foldl (λa d=>a*10+(d.toNat-48)) 0
theorem Qk9 (u:Nat):Qh6 (Lib.decDigits u)=u:=by
 induction u using Nat.strongRecOn with
 | _ u ih =>
  by_cases h:u<10
  ·rw [Lib.decDigits,dif_pos h];show 0*10+((UInt8.ofNat (48+u)).toNat-48)=u;rw [UInt8.toNat_ofNat'];omega
  rw [Lib.decDigits,dif_neg h];unfold Qh6;rw [List.foldl_append];show Qh6 (Lib.decDigits (u / 10))*10+((UInt8.ofNat (48+u % 10)).toNat-48)=u;rw [ih (u / 10) (by omega),UInt8.toNat_ofNat'];omega
theorem Qt6 {u v:Nat} (h:QZ u=QZ v):u=v:=by unfold QZ at h;rw [Lib.itoa_nonneg,Lib.itoa_nonneg] at h;have a:=congrArg (λb:ByteArray=>b.data.toList) h;simp only at a;rw [<- Qk9 u,<- Qk9 v,a]
theorem QdL {n:Int} (h:Qg n):Zx (QZ n)=true:=by unfold Zx QZ;rw [decide_eq_true];show (Lib.itoa n).toArray.size<=20;rw [size_toArray];exact QuT h
theorem nmA:QR ⟨#[97]⟩=true:=by kernel_rfl
theorem nmB:QR ⟨#[98]⟩=true:=by kernel_rfl
theorem nmC:QR ⟨#[99]⟩=true:=by kernel_rfl
theorem nmI:QR ⟨#[105]⟩=true:=by kernel_rfl
theorem nmU:QR ⟨#[117,105]⟩=true:=by kernel_rfl
theorem nmV:QR ⟨#[118]⟩=true:=by kernel_rfl
theorem noT:(ByteArray.toList ⟨#[]⟩).isEmpty=true:=by kernel_rfl
theorem noA:JJ 0 (Q4 []) (Zq [])=true:=by kernel_rfl
theorem isC:(ByteArray.toList ⟨#[99]⟩).isEmpty=false:=by kernel_rfl
theorem isI:(ByteArray.toList ⟨#[105]⟩).isEmpty=false:=by kernel_rfl
theorem isU:(ByteArray.toList ⟨#[117,105]⟩).isEmpty=false:=by kernel_rfl
/-! Which nodes may be. -/
def elP (n:Pn):Prop:=QR n.tag=true/\n.text.toList.isEmpty=true/\0<=n.key/\JJ n.ats.length (Q4 n.ats) (Zq n.ats)=true
def txP (n:Pn):Prop:=n.tag.toList.isEmpty=true/\n.key=0/\n.ats.length=0/\Zx n.text=true
def Qcd (x:Pn):List Pn->Bool
 | []=>false
 | y::r=>if y.d<x.d then !y.tag.toList.isEmpty else if x.key≠0/\y.d=x.d/\y.key=x.key then false else Qcd x r
def Qgv (a:List Pn) (x:Pn):Prop:=(∃ b r,a=b::r/\JL b.d x.d=true)/\(elP x \/ txP x)/\Qcd x a=true
def Val:List Pn->List Pn->Prop
 | _,[]=>True
 | pre,x::l=>Qgv pre x/\Val (x::pre) l
theorem Val.app:∀ {a A b:List Pn},Val a A->Val (A.reverse++a) b->Val a (A++b)| _,[],_,_,h=>h| a,x::A,b,⟨h1,h2⟩,h=>⟨h1,Val.app h2 (by rw [List.reverse_cons,append_assoc] at h;exact h)⟩
structure Ji (pre:List Pn) (d:Int) (K:List Int):Prop where
 last:∃ y r,pre=y::r/\d<=y.d+1
 low:1<=d
 high:d<=11
 back:∀ x:Pn,x.d=d->x.key=0 \/ x.key ∉ K->Qcd x pre=true
theorem Ji.ok {b:List Pn} {d:Int} {c:List Int} (h:Ji b d c) {x:Pn} (a:x.d=d) (f:x.key=0 \/ x.key ∉ c) (g:elP x \/ txP x):Qgv b x:=by obtain ⟨j,r,e,i⟩:=h.last;exact ⟨⟨j,r,e,Qjx (by rw [a];exact h.low) (by rw [a];exact i) (by have:=h.high;omega)⟩,g,h.back x a f⟩
theorem Ji.kid {a:List Pn} {n:Pn} (c:0<=n.d) (f:n.d<=10) (b:n.tag.toList.isEmpty=false):Ji (n::a) (n.d+1) [] := ⟨⟨n,a,rfl,Int.le_refl _⟩,by omega,by omega,λx g _=>by rw [Qcd,if_pos (by omega),b];rfl⟩
theorem Ji.next {c:List Pn} {d:Int} {g:List Int} (h:Ji c d g) {n:Pn} (l:n.d=d):Ji (n::c) d (n.key::g) := ⟨⟨n,c,rfl,by omega⟩,h.low,h.high,λx i f=>by
 rw [Qcd,if_neg (by omega),if_neg]
 ·exact h.back x i (f.imp_right λa b=>a (mem_cons_of_mem _ b))
 rintro ⟨j,_,k⟩;rcases f with e|e
 ·exact j e
 exact e (by rw [k];exact mem_cons_self ..)⟩
theorem Ji.over {d:Int} {b:List Int}:∀ {A a:List Pn},Ji a d b->(∀ n,n ∈ A->d<n.d)->Ji (A.reverse++a) d b| [],_,h,_=>h| n::A,a,h,hA=>by rw [List.reverse_cons,append_assoc];refine Ji.over (A:=A) ?_ λm c=>hA m (mem_cons_of_mem _ c);have i:=hA n (mem_cons_self ..);exact ⟨⟨n,a,rfl,by omega⟩,h.low,h.high,λx f g=>by show Qcd x (n::a)=true;rw [Qcd,if_neg (by omega),if_neg (by rintro ⟨_,e,_⟩;omega)];exact h.back x f g⟩
def Qhn (d:Int) (k:Int) (A:List Pn):Prop:=∀ a b,Ji a d b->k ∉ b->Val a A/\Ji (A.reverse++a) d (k::b)
theorem Qfv {α:Type} {d:Int} (F:α->List Pn) (key:α->Int):∀ (l:List α) (a:List Pn) (b:List Int),(∀ x,x ∈ l->Qhn d (key x) (F x))->(l.map key).Nodup->(∀ x,x ∈ l->key x ∉ b)->Ji a d b->Val a (l.flatMap F)/\Ji ((l.flatMap F).reverse++a) d ((l.map key).reverse++b)
 | [],a,b,_,_,_,h=>⟨trivial,h⟩
 | x::l,a,b,hF,hn,hK,h=>by
  obtain ⟨g,i⟩:=hF x (mem_cons_self ..) a b h (hK x (mem_cons_self ..));rw [map_cons,nodup_cons] at hn;obtain ⟨j,k⟩:=Qfv F key l _ _ (λf c=>hF f (mem_cons_of_mem _ c)) hn.2 (λf c m=>by
   rcases mem_cons.1 m with e|e
   ·exact hn.1 (mem_map.2 ⟨f,c,e⟩)
   exact hK f (mem_cons_of_mem _ c) e) i
  rw [flatMap_cons,List.reverse_append,append_assoc,map_cons,List.reverse_cons,append_assoc];exact ⟨g.app j,k⟩
theorem QoB (x:Pc) (h:Qg x.fa/\Qg x.fb/\Qg x.fc):JJ (JY x).length (Q4 (JY x)) (Zq (JY x))=true:=by
 have c:=QdL h.1;have a:=QdL h.2.1;have tc:=QdL h.2.2;have d:QR ⟨#[97]⟩=true:=nmA;have nb:QR ⟨#[98]⟩=true:=nmB;have nc:QR ⟨#[99]⟩=true:=nmC;have f:Op.bytesLess (ByteArray.toList ⟨#[97]⟩) (ByteArray.toList ⟨#[98]⟩)=true:=by kernel_rfl
 have ac:Op.bytesLess (ByteArray.toList ⟨#[97]⟩) (ByteArray.toList ⟨#[99]⟩)=true:=by kernel_rfl
 have b:Op.bytesLess (ByteArray.toList ⟨#[98]⟩) (ByteArray.toList ⟨#[99]⟩)=true:=by kernel_rfl
 unfold JY;by_cases g:x.fa=0<;>by_cases hb:x.fb=0<;>by_cases i:x.fc=0
 all_goals (simp only [g,hb,i,ne_eq,not_true_eq_false,not_false_eq_true,if_true,if_false,nil_append,append_nil,cons_append,length_cons,length_nil])
 all_goals (refine QgJ (by omega) λj k=>?_)
 all_goals (first|(exfalso;omega)|skip)
 all_goals (match j,k with|0,_=>(exact Qhg (by first|exact d|exact nb|exact nc) (by first|exact c|exact a|exact tc))|1,_=>(first|(exfalso;omega)|exact Qhk (by first|exact nb|exact nc) (by first|exact a|exact tc) (by first|exact f|exact ac|exact b))|2,_=>(first|(exfalso;omega)|exact Qhk nc tc b)|j+3,_=>(exfalso;omega))
theorem QqA {d n:Int} (l:0<=n) (o:n<=30) (f:d<=10):Qhn d (100+n) (Z4 d n):=by intro a p h g;have k:=h.low;have b:elP ⟨d,⟨#[105]⟩,100+n,⟨#[]⟩,[]⟩:=⟨nmI,noT,by show 0<=100+n;omega,noA⟩;have c:txP ⟨d+1,⟨#[]⟩,0,QZ n,[]⟩:=⟨noT,rfl,rfl,QdL ⟨by omega,by omega⟩⟩;have i:Ji (⟨d,⟨#[105]⟩,100+n,⟨#[]⟩,[]⟩::a) (d+1) []:=Ji.kid (n:=⟨d,⟨#[105]⟩,100+n,⟨#[]⟩,[]⟩) (by show 0<=d;omega) f isI;refine ⟨⟨h.ok rfl (.inr g) (.inl b),i.ok rfl (.inl rfl) (.inr c),trivial⟩,?_⟩;exact Ji.over (A:=[⟨d+1,⟨#[]⟩,0,QZ n,[]⟩]) (h.next (n:=⟨d,⟨#[105]⟩,100+n,⟨#[]⟩,[]⟩) rfl) λm j=>by rw [mem_singleton.1 j];show d<d+1;omega
theorem QlK (C:Nat->Pc):∀ (f k:Nat) (d:Int) (n:Pn),n ∈ ZC C f k d->d<=n.d
 | 0,_,_,_,h=>by rw [ZC] at h;cases h
 | f+1,k,d,n,h=>by
  rw [ZC] at h;rcases mem_cons.1 h with e|h
  ·rw [e];exact Int.le_refl _
  rcases mem_append.1 h with h|h
  ·obtain ⟨x,_,a⟩:=mem_flatMap.1 h;unfold Z4 at a;rcases mem_cons.1 a with e|a
   ·rw [e];show d<=d+1;omega
   rw [mem_singleton.1 a];show d<=d+1+1;omega
  obtain ⟨j,_,b⟩:=mem_flatMap.1 h;split at b
  ·have:=QlK C f j (d+1) n b;omega
  cases b
theorem Qi6 (C:Nat->Pc) (f k:Nat) (d:Int) (n:Pn) (h:n ∈ (C k).ns.flatMap (Z4 (d+1))++Z2 C f k (d+1)):d<n.d:=by
 rcases mem_append.1 h with h|h
 ·obtain ⟨x,_,a⟩:=mem_flatMap.1 h;unfold Z4 at a;rcases mem_cons.1 a with e|a
  ·rw [e];show d<d+1;omega
  rw [mem_singleton.1 a];show d<d+1+1;omega
 obtain ⟨j,_,b⟩:=mem_flatMap.1 h;split at b
 ·have:=QlK C f j (d+1) n b;omega
 cases b
theorem Qk6 (C:Nat->Pc) (p:Nat) (a:Nat->List Pn):∀ l:List Nat,(l.flatMap λj=>if Q9 C p j then a j else [])=(l.filter (Q9 C p)).flatMap a
 | []=>rfl
 | j::l=>by
  rw [flatMap_cons,Qk6 C p a l,filter_cons];cases h:Q9 C p j
  ·simp
  simp
theorem QgH (C:Nat->Pc) (f p:Nat) (d:Int):Z2 C f p d=((List.range 21).filter (Q9 C p)).flatMap λj=>ZC C f j d:=by unfold Z2;exact Qk6 C p _ _
theorem Qhj (C:Nat->Pc) (p:Nat):(((List.range 21).filter (Q9 C p)).map λj:Nat=>(j:Int)).Nodup:=by have h:((List.range 21).filter (Q9 C p)).Nodup:=(nodup_range).sublist filter_sublist;unfold List.Nodup at h ⊢;rw [pairwise_map];exact h.imp λa e=>a (by omega)
theorem Ql6 {v:Int} {C:Nat->Pc} (h:QY v C):∀ (f k:Nat) (d:Int),(C k).on=true->k<21->0<f->d+f<=9->Qhn d k (ZC C f k d)
 | 0,_,_,_,_,h0,_=>by omega
 | f+1,k,d,hon,hk,_,hd=>by
  intro l A b r;have y:=b.low;rw [QdG];have z:k≠0:=λe=>by rw [e,h.zero] at hon;cases hon
  have o:elP (QbC C k d):=⟨nmC,noT,by show (0:Int)<=(k:Int);omega,QoB _ (h.flds k)⟩;have p:Ji (QbC C k d::l) (d+1) []:=Ji.kid (n:=QbC C k d) (by show 0<=d;omega) (by show d<=10;omega) isC;obtain ⟨s,t⟩:=Qfv (Z4 (d+1)) (λn=>100+n) (C k).ns _ [] (λx a=>QqA (h.nums k x a).1 (h.nums k x a).2 (by omega)) (by have:=h.nodup k;unfold List.Nodup at this ⊢;rw [pairwise_map];exact this.imp λq e=>q (by omega)) (λ_ _=>by simp) p;have u:Val (((C k).ns.flatMap (Z4 (d+1))).reverse++QbC C k d::l) (Z2 C f k (d+1)):=by
   rw [QgH];cases f with
   | zero =>
    have e:(((List.range 21).filter (Q9 C k)).flatMap λj=>ZC C 0 j (d+1))=[]:=by rw [List.flatMap_eq_nil_iff];intro x _;rw [ZC]
    rw [e];trivial
   | succ f =>
    refine (Qfv (λj=>ZC C (f+1) j (d+1)) (λj:Nat=>(j:Int)) _ _ _ (λj c=>?_) (Qhj C k) (λj c m=>?_) t).1
    ·obtain ⟨g,i⟩:=mem_filter.1 c;unfold Q9 at i;simp only [Bool.and_eq_true] at i;exact Ql6 h (f+1) j (d+1) i.1 (mem_range.1 g) (by omega) (by omega)
    obtain ⟨g,_⟩:=mem_filter.1 c;have:=mem_range.1 g;rw [append_nil,mem_reverse] at m;obtain ⟨x,a,e⟩:=mem_map.1 m;have:=h.nums k x a;omega
  refine ⟨⟨b.ok rfl (.inr r) (.inl o),s.app u⟩,?_⟩;rw [List.reverse_cons,append_assoc];exact Ji.over (b.next (n:=QbC C k d) rfl) (Qi6 C f k d)
theorem QtU {f:Int} {C:Nat->Pc} (h:QY f C) (v:Int):Val [Qcu v] (Z2 C 5 0 1):=by rw [QgH];have b:Ji [Qcu v] 1 []:=Ji.kid (n:=Qcu v) (by show (0:Int)<=0;omega) (by show (0:Int)<=10;omega) isU;refine (Qfv (λj=>ZC C 5 j 1) (λj:Nat=>(j:Int)) _ _ _ (λj c=>?_) (Qhj C 0) (λ_ _=>by simp) b).1;obtain ⟨d,a⟩:=mem_filter.1 c;unfold Q9 at a;simp only [Bool.and_eq_true] at a;exact Ql6 h 5 j 1 a.1 (mem_range.1 d) (by omega) (by omega)
def Qq7 : Go.Shelf.Ren := ⟨fun | 171 => 72 | 243 => 109 | 246 => 149 | 283 => 180 | 284 => 181 | 285 => 182 | 286 => 183 | 129 => 194 | 317 => 193 | 318 => 195 | 319 => 196 | 320 => 197 | 337 => 202 | 338 => 203 | n => n, fun | 3 => 3 | 9 => 9 | 2 => 2 | 4 => 4 | 171 => 257 | 0 => 0 | 53 => 258 | 37 => 261 | 5 => 5 | 173 => 262 | 212 => 269 | 51 => 270 | 20 => 20 | 213 => 271 | 46 => 233 | 232 => 275 | 233 => 276 | n => n, fun | 17 => 1 | 18 => 3 | 19 => 4 | n => n⟩
theorem Quh : Go.Proofs.LaysM.n171 Tryz.prog Qq7 := {
  mixed := by kernel_rfl
  f129 := Tryz.func194.trans (congrArg some (by kernel_rfl))
  f171 := Tryz.func72.trans (congrArg some (by kernel_rfl))
  f243 := Tryz.func109.trans (congrArg some (by kernel_rfl))
  f246 := Tryz.func149.trans (congrArg some (by kernel_rfl))
  f283 := Tryz.func180.trans (congrArg some (by kernel_rfl))
  f284 := Tryz.func181.trans (congrArg some (by kernel_rfl))
  f285 := Tryz.func182.trans (congrArg some (by kernel_rfl))
  f286 := Tryz.func183.trans (congrArg some (by kernel_rfl))
  f317 := Tryz.func193.trans (congrArg some (by kernel_rfl))
  f318 := Tryz.func195.trans (congrArg some (by kernel_rfl))
  f319 := Tryz.func196.trans (congrArg some (by kernel_rfl))
  f320 := Tryz.func197.trans (congrArg some (by kernel_rfl))
  f337 := Tryz.func202.trans (congrArg some (by kernel_rfl))
  f338 := Tryz.func203.trans (congrArg some (by kernel_rfl))
  t0 := Tryz.underlying0
  a0 := Tryz.isAgg0
  z0 := Tryz.sizeOf0
  v0 := Tryz.zeroValue0
  t2 := Tryz.underlying2
  a2 := Tryz.isAgg2
  z2 := Tryz.sizeOf2
  v2 := Tryz.zeroValue2
  t3 := Tryz.underlying3
  a3 := Tryz.isAgg3
  z3 := Tryz.sizeOf3
  v3 := Tryz.zeroValue3
  t4 := Tryz.underlying4
  a4 := Tryz.isAgg4
  z4 := Tryz.sizeOf4
  v4 := Tryz.zeroValue4
  t5 := Tryz.underlying5
  a5 := Tryz.isAgg5
  z5 := Tryz.sizeOf5
  v5 := Tryz.zeroValue5
  t9 := Tryz.underlying9
  a9 := Tryz.isAgg9
  z9 := Tryz.sizeOf9
  v9 := Tryz.zeroValue9
  t20 := Tryz.underlying20
  a20 := Tryz.isAgg20
  z20 := Tryz.sizeOf20
  v20 := Tryz.zeroValue20
  t37 := Tryz.underlying261
  a37 := Tryz.isAgg261
  z37 := Tryz.sizeOf261
  v37 := Tryz.zeroValue261
  t46 := Tryz.underlying233
  a46 := Tryz.isAgg233
  z46 := Tryz.sizeOf233
  v46 := Tryz.zeroValue233
  t51 := Tryz.underlying270
  a51 := Tryz.isAgg270
  z51 := Tryz.sizeOf270
  v51 := Tryz.zeroValue270
  t53 := Tryz.underlying258
  a53 := Tryz.isAgg258
  z53 := Tryz.sizeOf258
  v53 := Tryz.zeroValue258
  t171 := Tryz.underlying257
  a171 := Tryz.isAgg257
  z171 := Tryz.sizeOf257
  v171 := Tryz.zeroValue257
  t173 := Tryz.underlying262
  a173 := Tryz.isAgg262
  z173 := Tryz.sizeOf262
  v173 := Tryz.zeroValue262
  t212 := Tryz.underlying269
  a212 := Tryz.isAgg269
  z212 := Tryz.sizeOf269
  v212 := Tryz.zeroValue269
  t213 := Tryz.underlying271
  a213 := Tryz.isAgg271
  z213 := Tryz.sizeOf271
  t232 := Tryz.underlying275
  a232 := Tryz.isAgg275
  z232 := Tryz.sizeOf275
  v232 := Tryz.zeroValue275
  t233 := Tryz.underlying276
  a233 := Tryz.isAgg276
  z233 := Tryz.sizeOf276
  v233 := Tryz.zeroValue276
  g17 := by kernel_rfl
  g18 := by kernel_rfl
  g19 := by kernel_rfl
  i0 := by kernel_rfl
  i2 := by kernel_rfl
  i3 := by kernel_rfl
  i4 := by kernel_rfl
  i5 := by kernel_rfl
  i9 := by kernel_rfl
  i20 := by kernel_rfl
  i37 := by kernel_rfl
  i46 := by kernel_rfl
  i51 := by kernel_rfl
  i53 := by kernel_rfl
  i171 := by kernel_rfl
  i173 := by kernel_rfl
  i212 := by kernel_rfl
  i232 := by kernel_rfl
  i233 := by kernel_rfl
  m17 := by kernel_rfl
  m18 := by kernel_rfl
  m19 := by kernel_rfl }
abbrev Tab (w : World) : Prop := Lib.TabIs Tryz.prog w "internal/strconv.uint64pow10" .u64 Lib.pow10Tab
theorem QhV (n : Int) (a : Qg n) (w : World) (b : Tab w) :
    Calls Tryz.prog 72 #[.int .i64 n] w λe w' => e = .returned (.string (QZ n)) ∧ Below w.heap.size w w' := by
  refine (Any.strconv_Itoa Quh n a.1 a.2 w b).mono ?_
  rintro e w' ⟨rfl, k, os, rfl⟩
  refine ⟨rfl, ?_⟩
  exact ⟨rfl, rfl, rfl, by simp [Sort.grow], λj c => by
    show (w.heap ++ os)[j]? = _
    exact Array.getElem?_append_left c⟩
def su:Nat->(Nat->Nat)->Nat
 | 0,_=>0
 | n+1,g=>su n g+g n
theorem Qee {g h:Nat->Nat}:∀ n,(∀ i,i<n->g i<=h i)->su n g<=su n h| 0,_=>Nat.le_refl _| n+1,H=>by have:=Qee n λi a=>H i (by omega);have:=H n (by omega);unfold su;omega
theorem Qdz (g h:Nat->Nat):∀ n,su n (λi=>g i+h i)=su n g+su n h| 0=>rfl| n+1=>by unfold su;rw [Qdz g h n];show _+(g n+h n)=_;omega
theorem Qe1:∀ n,su n (λ_=>0)=0| 0=>rfl| n+1=>Qe1 n
theorem Qjv (g:Nat->Nat->Nat) (m:Nat):∀ n,su n (λi=>su m (λj=>g i j))=su m (λj=>su n (λi=>g i j))| 0=>(Qe1 m).symm| n+1=>by show su n (λi=>su m (λj=>g i j))+su m (λj=>g n j)=su m (λj=>su n (λi=>g i j)+g n j);rw [Qjv g m n,Qdz]
theorem QkG (p X:Nat):∀ n,su n (λi=>if i=p then X else 0)=if p<n then X else 0| 0=>by simp [su]| n+1=>by unfold su;rw [QkG p X n];show (if p<n then X else 0)+(if n=p then X else 0)=if p<n+1 then X else 0;split<;>split<;>split<;>omega
theorem QiP (X:Nat):∀ n,su n (λ_=>X)=n*X| 0=>by simp [su]| n+1=>by unfold su;rw [QiP X n,Nat.succ_mul]
theorem QlO (F:Nat->List Pn):∀ n,((List.range n).flatMap F).length=su n (λj=>(F j).length)| 0=>rfl| n+1=>by rw [range_succ,flatMap_append,length_append,QlO F n];simp [su]
theorem Qjg (d:Int) (l:List Int):(l.flatMap (Z4 d)).length=2*l.length:=by induction l with| nil=>rfl| cons x l ih=>rw [flatMap_cons,length_append,ih];simp [Z4];omega
theorem QuD (C:Nat->Pc) (f p:Nat) (d:Int):(Z2 C (f+1) p d).length=su 21 λj=>if Q9 C p j then 1+2*(C j).ns.length+(Z2 C f j (d+1)).length else 0:=by
 unfold Z2;rw [QlO];congr 1
 funext j;split
 ·rw [QdG,length_cons,length_append,Qjg];unfold Z2;omega
 rfl
def Zs (C:Nat->Pc) (a:Nat->Nat) (e:Nat) (X:Nat->Nat):Nat:=su 21 λj=>if (C j).on=true/\a j=e then X j else 0
theorem Qlu (C:Nat->Pc) (a:Nat->Nat) (e:Nat) (X b:Nat->Nat):Zs C a e (λj=>X j+b j)=Zs C a e X+Zs C a e b:=by
 unfold Zs;rw [<- Qdz];congr 1
 funext j;split
 ·rfl
 rfl
theorem QsB {C:Nat->Pc} {b:Nat->Nat} (h:Deep C b) (m:(C 0).on=false) (e:Nat) (X:Nat->Nat):Zs C b e (λp=>su 21 λj=>if Q9 C p j then X j else 0)<=Zs C b (e+1) X:=by
 unfold Zs;have n:(su 21 λp=>if (C p).on=true/\b p=e then su 21 λj=>if Q9 C p j then X j else 0 else 0)=su 21 λp=>su 21 λj=>if ((C p).on=true/\b p=e)/\Q9 C p j=true then X j else 0:=by
  congr 1
  funext p;by_cases f:(C p).on=true/\b p=e
  ·rw [if_pos f];congr 1
   funext j;by_cases d:Q9 C p j=true
   ·rw [if_pos d,if_pos ⟨f,d⟩]
   rw [if_neg d,if_neg λa=>d a.2]
  rw [if_neg f];have:(λj=>if ((C p).on=true/\b p=e)/\Q9 C p j=true then X j else 0)=λ_=>0:=by funext j;rw [if_neg λa=>f a.1]
  rw [this,Qe1]
 rw [n,Qjv];refine Qee 21 λj _=>?_;have none:(∀ p,¬ (((C p).on=true/\b p=e)/\Q9 C p j=true))->su 21 (λp=>if ((C p).on=true/\b p=e)/\Q9 C p j=true then X j else 0)<=if (C j).on=true/\b j=e+1 then X j else 0:=λo=>by
  have:(λp=>if ((C p).on=true/\b p=e)/\Q9 C p j=true then X j else 0)=λ_=>0:=by funext p;rw [if_neg (o p)]
  rw [this,Qe1];exact Nat.zero_le _
 have g:∀ p,Q9 C p j=true->(C j).on=true/\(C j).par=p:=λp d=>by unfold Q9 at d;simpa only [Bool.and_eq_true,beq_iff_eq] using d
 by_cases k:(C j).on=true
 ·rcases h.up j k with ⟨s,t⟩|⟨q,u,r,v,x,y⟩
  ·refine none λp c=>?_;have:=(g p c.2).2;have:p=0:=by omega
   rw [this,m] at c;cases c.1.1
  refine Nat.le_trans (Qee 21 (h:=λi=>if i=q then (if b q=e then X j else 0) else 0) λp _=>?_) ?_
  ·by_cases c:((C p).on=true/\b p=e)/\Q9 C p j=true
   ·rw [if_pos c];have:p=q:=by have:=(g p c.2).2;omega
    subst this;rw [if_pos rfl,if_pos c.1.2];exact Nat.le_refl _
   rw [if_neg c];exact Nat.zero_le _
  rw [QkG,if_pos r];by_cases l:b q=e
  ·rw [if_pos l,if_pos ⟨k,by omega⟩];exact Nat.le_refl _
  rw [if_neg l];exact Nat.zero_le _
 exact none λp c=>k (g p c.2).1
def wn (C:Nat->Pc):Nat->Nat->Nat
 | 0,_=>0
 | f+1,p=>su 21 λj=>if Q9 C p j then (1+2*(C j).ns.length)+wn C f j else 0
theorem QhZ (C:Nat->Pc):∀ (f p:Nat) (d:Int),(Z2 C f p d).length=wn C f p
 | 0,p,d=>by
  rw [QgH];have e:(((List.range 21).filter (Q9 C p)).flatMap λj=>ZC C 0 j d)=[]:=by rw [List.flatMap_eq_nil_iff];intro x _;rw [ZC]
  rw [e];rfl
 | f+1,p,d=>by
  rw [QuD];unfold wn;congr 1
  funext j;rw [QhZ C f j (d+1)]
theorem QeX {C:Nat->Pc} {a:Nat->Nat} (h:Deep C a) (b:(C 0).on=false) (f e:Nat):Zs C a e (wn C (f+1))<=Zs C a (e+1) (λj=>1+2*(C j).ns.length)+Zs C a (e+1) (wn C f):=by rw [<- Qlu];exact QsB h b e _
theorem Qlx (C:Nat->Pc) (a:Nat->Nat) (e:Nat):Zs C a e (wn C 0)=0:=by
 unfold Zs;have:(λj=>if (C j).on=true/\a j=e then wn C 0 j else 0)=λ_=>0:=by funext j;split<;>rfl
 rw [this,Qe1]
theorem Qd9 {r:Int} {C:Nat->Pc} (h:QY r C) (v:Int):(QJ C v).length<=341:=by
 obtain ⟨b,d⟩:=h.deep;unfold QJ;rw [length_cons,QhZ];have o:wn C 5 0<=Zs C b 0 (λj=>(1+2*(C j).ns.length)+wn C 4 j):=by
  unfold wn Zs;refine Qee 21 λj _=>?_;by_cases c:Q9 C 0 j=true
  ·rw [if_pos c];unfold Q9 at c;simp only [Bool.and_eq_true,beq_iff_eq] at c;have:b j=0:=by
    rcases d.up j c.1 with ⟨_,a⟩|⟨q,s,t,u,_⟩
    ·exact a
    have:=c.2;omega
   rw [if_pos ⟨c.1,this⟩];exact Nat.le_refl _
  rw [if_neg c];exact Nat.zero_le _
 rw [Qlu] at o;have x:Zs C b 0 (wn C 4)<=Zs C b 1 (λj=>1+2*(C j).ns.length)+Zs C b 1 (wn C 3):=QeX d h.zero 3 0;have y:Zs C b 1 (wn C 3)<=Zs C b 2 (λj=>1+2*(C j).ns.length)+Zs C b 2 (wn C 2):=QeX d h.zero 2 1;have z:Zs C b 2 (wn C 2)<=Zs C b 3 (λj=>1+2*(C j).ns.length)+Zs C b 3 (wn C 1):=QeX d h.zero 1 2;have p:Zs C b 3 (wn C 1)<=Zs C b 4 (λj=>1+2*(C j).ns.length)+Zs C b 4 (wn C 0):=QeX d h.zero 0 3;rw [Qlx] at p;have A:Zs C b 0 (λj=>1+2*(C j).ns.length)+Zs C b 1 (λj=>1+2*(C j).ns.length)+Zs C b 2 (λj=>1+2*(C j).ns.length)+Zs C b 3 (λj=>1+2*(C j).ns.length)+Zs C b 4 (λj=>1+2*(C j).ns.length)<=su 21 (λj=>if j=0 then 0 else 17):=by
  unfold Zs;rw [<- Qdz,<- Qdz,<- Qdz,<- Qdz];refine Qee 21 λj _=>?_;by_cases f:(C j).on=true
  ·have B:=h.few j;have n:j≠0:=λe=>by rw [e,h.zero] at f;cases f
   rw [if_neg n];simp only [f,true_and];by_cases g:b j=0
   ·simp [g];omega
   by_cases i:b j=1
   ·simp [i];omega
   by_cases k:b j=2
   ·simp [k];omega
   by_cases l:b j=3
   ·simp [l];omega
   by_cases m:b j=4
   ·simp [m];omega
   simp [g,i,k,l,m]
  simp only [f];exact Nat.zero_le _
 have D:su 21 (λj=>if j=0 then 0 else 17)=340:=by decide
 omega
/-! As nodes in memory. -/
theorem Qo0 {L:Nat->Qd} {P:List Pn} (a:∀ i,(n:i<P.length)->(L i).d=P[i].d/\(L i).t=P[i].tag/\(L i).k=P[i].key/\(L i).x=P[i].text/\(L i).an=P[i].ats.length/\(L i).nm=Q4 P[i].ats/\(L i).vl=Zq P[i].ats) {i:Nat} (n:i<P.length) (G:0<i) (h:Qgv (P.take i).reverse P[i]):QQ L i=true:=by
 obtain ⟨⟨u,r,e,v⟩,y,hb⟩:=h;unfold QQ;rw [if_neg (by omega)];have z:u=P[i-1]:=by
  have:(P.take i).reverse[0]?=some u:=by rw [e];rfl
  rw [List.getElem?_reverse (by rw [length_take];omega),length_take,getElem?_take,if_pos (by omega),show min i P.length-1-0=i-1 by omega,getElem?_eq_getElem (by omega)] at this;exact (Option.some.inj this).symm
 obtain ⟨o,p,b,q,s,A,B⟩:=a i n;have C:∀ j,j<=i->Z1 L i j=Qcd P[i] (P.take j).reverse:=by
  intro j;induction j with
  | zero=>intro _;rfl
  | succ j ih =>
   intro H;have m:j<P.length:=by omega
   obtain ⟨D,E,F,_⟩:=a j m;rw [take_succ_eq_append_getElem m,List.reverse_append];show Z1 L i (j+1)=Qcd P[i] (P[j]::(P.take j).reverse);rw [Z1,Qcd,ih (by omega),D,E,F,o,b]
 rw [C i (Nat.le_refl _),hb,Bool.and_true,(a (i-1) (by omega)).1,o,<- z,v,Bool.true_and];rcases y with ⟨c,f,g,l⟩|⟨c,f,g,l⟩
 ·have:Q8 (L i)=true:=by unfold Q8;rw [p,b,q,s,A,B,c,f,l,decide_eq_true g];rfl
  rw [this];rfl
 have:Zz (L i)=true:=by unfold Zz;rw [p,b,q,s,c,l,decide_eq_true f,decide_eq_true g];rfl
 rw [this];simp
theorem QkA:∀ (A a:List Pn),Val a A->∀ i,(b:i<A.length)->Qgv ((A.take i).reverse++a) A[i]| x::A,a,⟨h1,h2⟩,0,_=>h1| x::A,a,⟨h1,h2⟩,i+1,b=>by have:=QkA A (x::a) h2 i (by simpa using b);rw [take_succ_cons,List.reverse_cons,append_assoc];exact this
theorem Qid {r:Int} {C:Nat->Pc} (h:QY r C) {v:Int} (f:Qg v) {L:Nat->Qd} (b:∀ i,(a:i<(QJ C v).length)->(L i).d=(QJ C v)[i].d/\(L i).t=(QJ C v)[i].tag/\(L i).k=(QJ C v)[i].key/\(L i).x=(QJ C v)[i].text/\(L i).an=(QJ C v)[i].ats.length/\(L i).nm=Q4 (QJ C v)[i].ats/\(L i).vl=Zq (QJ C v)[i].ats):∀ i,i<(QJ C v).length->QQ L i=true:=by
 intro i a;cases i with
 | zero =>
  obtain ⟨g,l,m,n,o,p,q⟩:=b 0 a;unfold QQ;rw [if_pos rfl,g];have:Q8 (L 0)=true:=by
   unfold Q8;rw [l,m,n,o,p,q];show (QR ⟨#[117,105]⟩&&(ByteArray.toList ⟨#[]⟩).isEmpty&&decide ((0:Int)<=0)&&JJ 1 (Q4 [(⟨#[118]⟩,QZ v)]) (Zq [(⟨#[118]⟩,QZ v)]))=true;rw [QgJ (by omega) λj s=>by
    have:j=0:=by omega
    subst this;exact Qhg nmV (QdL f),nmU,noT]
   rfl
  rw [this];rfl
 | succ i =>
  refine Qo0 b a (by omega) ?_;have c:i<(Z2 C 5 0 1).length:=by unfold QJ at a;simpa using a
  have:=QkA _ _ (QtU h v) i c;unfold QJ;rw [take_succ_cons,List.reverse_cons];exact this
theorem Qh5 (w:World) (c:Array Value) (t:TypeId) (n size:Nat) (xs:List Value) (b:c.toList=xs) (a:xs.length=n*size) (f:n<=maxLen) (d:Nat) (g:d<=w.heap.size):(w.alloc (.cells c t)).ownsRow d t size (.slice (some ⟨w.heap.size,0,none⟩) n n) n xs:=by refine ⟨a,.inr ⟨w.heap.size,n,c,rfl,g,heap_alloc_new w _,Nat.le_refl _,f,by rw [<- a,<- b,Array.length_toList],?_⟩⟩;rw [<- a,b,take_length]
theorem QqO (b:Nat) (w1:World) (B:b<=w1.heap.size) (A:Obj) (d k:Int) (t:ByteArray) (o:t.size<=maxLen) : Calls Tryz.prog 73 #[.agg #[.int .i64 d,.string ⟨#[105]⟩,.int .i64 k,.slice none 0 0,.string ⟨#[]⟩],.slice (some ⟨w1.heap.size+1+1,0,none⟩) 1 1] (((w1.alloc A).alloc (.cells #[.int .i64 (d+1),.string ⟨#[]⟩,.int .i64 0,.slice none 0 0,.string t] 47)).alloc (.cells #[.slice (some ⟨w1.heap.size+1,0,none⟩) 1 1] 41)) λe w'=>∃ q,e=.returned q/\ZB b w' q [⟨d,⟨#[105]⟩,k,⟨#[]⟩,[],none,0,0⟩,⟨d+1,⟨#[]⟩,0,t,[],none,0,0⟩]/\Below w1.heap.size w1 w':=by
 have i:Below w1.heap.size w1 (((w1.alloc A).alloc (.cells #[.int .i64 (d+1),.string ⟨#[]⟩,.int .i64 0,.slice none 0 0,.string t] 47)).alloc (.cells #[.slice (some ⟨w1.heap.size+1,0,none⟩) 1 1] 41)):=(((Below.refl _ _).alloc (Nat.le_refl _) _).alloc (by simp) _).alloc (by simp;omega) _;have n:(((w1.alloc A).alloc (.cells #[.int .i64 (d+1),.string ⟨#[]⟩,.int .i64 0,.slice none 0 0,.string t] 47)).alloc (.cells #[.slice (some ⟨w1.heap.size+1,0,none⟩) 1 1] 41)).ownsRow b 47 5 (.slice (some ⟨w1.heap.size+1,0,none⟩) 1 1) 1 (ZT [⟨d+1,⟨#[]⟩,0,t,[],none,0,0⟩]):=by
  have m:=Qh5 (w1.alloc A) #[.int .i64 (d+1),.string ⟨#[]⟩,.int .i64 0,.slice none 0 0,.string t] 47 1 5 (ZT [⟨d+1,⟨#[]⟩,0,t,[],none,0,0⟩]) rfl rfl (by unfold maxLen;omega) b (by simp;omega);have e:(w1.alloc A).heap.size=w1.heap.size+1:=by simp
  rw [e] at m;exact Zi m ((Below.refl _ _).alloc (Nat.le_refl _) _)
 have l:∀ (w:World) (q:Value) (x:TN),x.ats=[]->x.ao=none->x.an=0->x.ac=0->x.tag.size<=maxLen->x.text.size<=maxLen->x.Ok b w q:=λw q x f p g r s u=>by
  have ev:x.av=.slice none 0 0:=by unfold TN.av;rw [p,g,r]
  refine ⟨by rw [g,f];rfl,s,u,by rw [ev,g,f];exact World.ownsRow_nil _ _ _ _,(λC v=>absurd v (by rw [f];simp)),.inl (by rw [ev];rfl)⟩
 refine (QfF b _ ⟨d,⟨#[105]⟩,k,⟨#[]⟩,[],none,0,0⟩ (some ⟨w1.heap.size+1+1,0,none⟩) 1 [(.slice (some ⟨w1.heap.size+1,0,none⟩) 1 1,[⟨d+1,⟨#[]⟩,0,t,[],none,0,0⟩])] 1 rfl (by simp;omega) (λj h=>?_) (λa e=>?_) (λj h=>?_) (l _ _ _ rfl rfl rfl rfl (by show (1:Nat)<=_;unfold maxLen;omega) (by show (0:Nat)<=_;omega)) ?_ (by show 1<=_;omega) (by omega)).mono ?_
 ·have:j=0:=by simpa using h
  subst this;refine ⟨w1.heap.size+1+1,rfl,?_⟩;have e:((w1.alloc A).alloc (.cells #[.int .i64 (d+1),.string ⟨#[]⟩,.int .i64 0,.slice none 0 0,.string t] 47)).heap.size=w1.heap.size+1+1:=by simp
  have:=heap_alloc_new ((w1.alloc A).alloc (.cells #[.int .i64 (d+1),.string ⟨#[]⟩,.int .i64 0,.slice none 0 0,.string t] 47)) (.cells #[.slice (some ⟨w1.heap.size+1,0,none⟩) 1 1] 41);rw [e] at this;simp only [World.cell?,this];rfl
 ·cases e;simp
 ·have:j=0:=by simpa using h
  subst this;refine ⟨n,λx c=>?_,by simp⟩;rw [mem_singleton.1 c];exact l _ _ _ rfl rfl rfl rfl (by show (0:Nat)<=_;omega) o
 ·exact pairwise_cons.2 ⟨λx c=>.inl (by have c:x ∈ [(⟨d+1,⟨#[]⟩,0,t,[],none,0,0⟩:TN)]:=c;rw [mem_singleton.1 c];rfl),by simp [QG]⟩
 rintro e w' ⟨q,rfl,y,z,_⟩;exact ⟨q,rfl,y,i.trans (z.mono i.size)⟩
theorem Qfi {n:Int} (h:Qg n):(QZ n).size<=maxLen:=by have:=QdL h;unfold Zx at this;have:=of_decide_eq_true this;unfold maxLen;omega
theorem QnC (n d:Int) (m:0<=n/\n<=30) (o:0<=d/\d<=100) (w:World) (h:Tab w) : Calls Tryz.prog 150 #[.int .i64 n,.int .i64 d] w λe w'=>∃ q a,e=.returned q/\ZB w.heap.size w' q a/\a.map TN.pn=Z4 d n/\Below w.heap.size w w':=by have c:Qg n:=⟨by omega,by omega⟩;have i:=Qa (QhV n c w h);have j:Hid (∀ w1,Below w.heap.size w w1->∀ A,Calls Tryz.prog 73 #[.agg #[.int .i64 d,.string ⟨#[105]⟩,.int .i64 (100+n),.slice none 0 0,.string ⟨#[]⟩],.slice (some ⟨w1.heap.size+1+1,0,none⟩) 1 1] (((w1.alloc A).alloc (.cells #[.int .i64 (d+1),.string ⟨#[]⟩,.int .i64 0,.slice none 0 0,.string (QZ n)] 47)).alloc (.cells #[.slice (some ⟨w1.heap.size+1,0,none⟩) 1 1] 41)) λe w'=>∃ q a,e=.returned q/\ZB w.heap.size w' q a/\a.map TN.pn=Z4 d n/\Below w.heap.size w w'):=Qa λw1 hb A => (QqO w.heap.size w1 hb.size A d (100+n) (QZ n) (Qfi c)).mono λe w' ⟨q,b,f,g⟩=>⟨q,_,b,f,rfl,hb.trans (g.mono hb.size)⟩;clear h c;go_enter Tryz.func150,Tryz.ntmps150;go_wp2_with (first|(go_at_call 72;refine i.out.mono ?_;rintro e w1 ⟨rfl,b⟩;have k:=Qa b;clear b)|(go_at_call 73;refine (j.out _ k.out _).mono ?_;rintro e w2 ⟨q,a,rfl,f,g,l⟩));go_ret;exact ⟨q,a,rfl,f,g,l⟩
def JK (x:Pc) (i:Nat):Int:=if i=0 then x.fa else if i=1 then x.fb else x.fc
def nmF (i:Nat):ByteArray:=if i=0 then ⟨#[97]⟩ else if i=1 then ⟨#[98]⟩ else ⟨#[99]⟩
def Qe9 (x:Pc) (i:Nat):List (ByteArray × ByteArray):=if JK x i≠0 then [(nmF i,QZ (JK x i))] else []
def JE (x:Pc):Nat->List (ByteArray × ByteArray)
 | 0=>[]
 | i+1=>JE x i++Qe9 x i
theorem Qq3 (x:Pc):JE x 3=JY x:=rfl
theorem Qj5 (x:Pc):∀ i,(JE x i).length<=i
 | 0=>Nat.le_refl _
 | i+1=>by
  unfold JE;rw [length_append];have:=Qj5 x i;unfold Qe9;split
  ·simp;omega
  simp;omega
structure Gl (w:World):Prop where
 tab:Tab w
 nm:∀ i,i<3->w.cell? ⟨0,i,none⟩=some (.string (nmF i))
 pos:0<w.heap.size
theorem Qqt (x:Pc) (i:Nat) (a:i<3) (w:World):(Instr.index 103 (.agg #[.int .i64 x.fa,.int .i64 x.fb,.int .i64 x.fc]) (.int .i64 i)).run Tryz.prog w=.ok (.int .i64 (JK x i)) w:=by
 have h:=Tryz.underlying103
 match i,a with
 | 0,_=>simp [Instr.index,run_underlying h,asIntOf,go_sem,JK]
 | 1,_=>simp [Instr.index,run_underlying h,asIntOf,go_sem,JK]
 | 2,_=>simp [Instr.index,run_underlying h,asIntOf,go_sem,JK]
theorem Qtv (x:Cm) (k:Qg x.fa/\Qg x.fb/\Qg x.fc) (w:World) (s:∀ F,Below w.heap.size w F->Gl F) : Calls Tryz.prog 151 #[.agg #[.bool x.on,.int .i64 x.gen,.int .i64 x.par,.int .i64 x.fa,.int .i64 x.fb,.int .i64 x.fc,.slice x.no x.nn x.nc]] w λe w'=>∃ v,e=.returned v/\w'.ownsRow w.heap.size 96 2 v (JY x.pc).length (QM (JY x.pc))/\Below w.heap.size w w':=by
 obtain ⟨S,T,J,K,L⟩:=info_parts Qdc;have p:=Qqt x.pc;have U:=Qa s;have V:=Qa (Qj5 x.pc);have W:Hid (∀ i,Qg (JK x.pc i)):=Qa λi=>by unfold JK;split;exact k.1;split;exact k.2.1;exact k.2.2
 have B:=Qa ((Below.refl w.heap.size w).alloc (Nat.le_refl _) (.cells #[.bool x.on,.int .i64 x.gen,.int .i64 x.par,.int .i64 x.fa,.int .i64 x.fb,.int .i64 x.fc,.slice x.no x.nn x.nc] 105));have h:x.pc.fa=x.fa/\x.pc.fb=x.fb/\x.pc.fc=x.fc:=⟨rfl,rfl,rfl⟩;rw [h.1,h.2.1,h.2.2] at p;have X:=Qa p;have Y:Hid (0<w.heap.size):=Qa (s w (Below.refl _ _)).pos;clear s k h p;rw [<- Qq3];generalize x.pc=a at *;go_enter Tryz.func151,Tryz.ntmps151;go_wp2;go_loopw [3,8] (λlv u wr=>∃ m:Nat,m<=3/\u=.int .i64 m/\Hid (wr.ownsRow w.heap.size 96 2 lv (JE a m).length (QM (JE a m)))/\Hid (Below w.heap.size w wr)) (λ_ u _=>3-(intOf u).toNat);·exact ⟨0,by omega,rfl,Qa (World.ownsRow_nil _ _ _ _),B⟩
 case round =>
  obtain ⟨m,a8,rfl,g,d⟩:=hrel;clear B;by_cases C:m<3
  ·have a9:=X.out m C;have aa:(m:Int)<3:=by omega
   have l:=U.out wr d.out;have ab:=l.nm m C;have a7:=l.pos;have y:=Qa (QhV (JK a m) (W.out m) wr.drew l.tab);have n:Hid (JE a (m+1)=JE a m++Qe9 a m):=Qa rfl;have a6:=V.out m;clear l;cases E:(JK a m !=0) with
   | false =>
    have q:Hid (JE a (m+1)=JE a m):=Qa (by rw [n.out];unfold Qe9;rw [if_neg (by simpa using E),append_nil]);clear y n;generalize JK a m=v at *;go_wp2;go_roundw;·exact ⟨m+1,by omega,by go_num,Qa (by rw [q.out];exact g.out),d⟩
    simp [intOf];omega
   | true =>
    have q:Hid (JE a (m+1)=JE a m++[(nmF m,QZ (JK a m))]):=Qa (by rw [n.out];unfold Qe9;rw [if_pos (by simpa using E)]);have G:some 0≠u3.ownBlock:=λe=>by have:=(World.ownsRow.lt g.out 0 e.symm).1;have:=Y.out;omega
    have D:Hid (∀ b,Below wr.drew.heap.size wr.drew b->∀ A,(b.alloc A).ownsRow w.heap.size 96 2 u3 (JE a m).length (QM (JE a m))):=Qa λb f A=>Zi g.out ((Below.refl wr.heap.size wr).drew.trans (f.alloc f.size A));have M:Hid (∀ b,Below wr.drew.heap.size wr.drew b->w.heap.size<=b.heap.size):=Qa λb f=>by have:=d.out.size;have a0:wr.heap.size<=b.heap.size:=f.size;omega
    have r:Hid (∀ b,Below wr.drew.heap.size wr.drew b->∀ A,w.heap.size<=(b.alloc A).heap.size):=Qa λb f A=>by have:=d.out.size;have a0:wr.heap.size<=b.heap.size:=f.size;simp;omega
    clear n;generalize a1:JK a m=v at *;generalize a2:nmF m=nm at *;clear a1 a2;go_wp2_with fail
    go_region_held3 (λw'=>w'.cell? ⟨0,m,none⟩=some (.string nm))
     (first
      | go_keep
      | (rw [c.cell (by simp;omega)];assumption)
      | (rw [o.cell_far _ (by simp) G];assumption))
     (first|(go_at_call 72;refine y.out.mono ?_;rintro e b ⟨rfl,c⟩)|(refine step_append_lies _ (by rfl) _ _ _ (by rfl) w.heap.size 96 S _ 2 32 Tryz.underlying45 T J K L rfl (by omega) u3 (JE a m).length _ (by rfl) (D.out b c _) ⟨b.heap.size,0,none⟩ 1 1 [.string nm,.string (QZ v)] (by rfl) (by rfl) (World.news_of_block (cs:=#[.string nm,.string (QZ v)]) (t:=96) (fr:=(0,0)) (heap_alloc_new b _)) (by simp [Value.oneCell']) (by omega) (by unfold maxLen;omega) (by omega) (r.out b c _) (b.heap.size+1) (by simp) ?_;intro a3 H w1 z o N I))
    have O:=Qa (((d.out.drew.trans (c.mono d.out.size)).alloc (M.out b c) (.cells #[.string nm,.string (QZ v)] 96)).grown o (r.out b c _) (λj a4=>(World.ownsRow.lt g.out j a4).1));have P:Hid (w1.ownsRow w.heap.size 96 2 (.slice (some ⟨a3,0,none⟩) ((JE a m).length+1) H) (JE a (m+1)).length (QM (JE a (m+1)))):=Qa (by
     rw [q.out];have a5:QM (JE a m++[(nm,QZ v)])=QM (JE a m)++[.string nm,.string (QZ v)]:=by unfold QM;rw [flatMap_append];rfl
     rw [a5,length_append];exact z)
    clear z o y D r c N I;go_wp2;go_roundw;·exact ⟨m+1,by omega,by go_num,P,O⟩
    simp [intOf];omega
  have R:m=3:=by omega
  subst R;go_wp2;go_ret;exact ⟨_,rfl,g.out,d.out⟩
end Go.Proofs.YtobgcaemnpkbmaaGreatDoor
