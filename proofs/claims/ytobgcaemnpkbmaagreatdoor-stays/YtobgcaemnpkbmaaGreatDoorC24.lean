import Derived.Test.YtobgcaemnpkbmaaGreatDoorC23
import Derived.ProofKit
import Derived.SizedLaws
import Derived.Deep.SlicePairs
namespace Go.Proofs.YtobgcaemnpkbmaaGreatDoor
set_option maxRecDepth 100000
set_option maxHeartbeats 8000000
open Go.RowKit List Go.ChangeShapes Go.WideShapes Go.ChangeAt Go.Deep
theorem Qle (b:List TN) (i r:Nat) (c:i<b.length) (f:r<5):(ZT b)[i*5+r]?=(b[i]).cells[r]?:=by
 induction b generalizing i with
 | nil=>exact absurd c (Nat.not_lt_zero _)
 | cons a b ih =>
  have e:ZT (a::b)=a.cells++ZT b:=by unfold ZT;rw [flatMap_cons]
  rw [e];cases i with
  | zero=>rw [getElem?_append_left (by show 0*5+r<5;omega)];simp
  | succ i =>
   rw [getElem?_append_right (by show 5<=_;omega)];have d:(i+1)*5+r-a.cells.length=i*5+r:=by show _-5=_;omega
   rw [d,ih i (by simpa using c)];rfl
def TN.nodK (n:TN):Qd:=⟨n.d,n.tag,n.key,n.ao,n.an,n.ac,n.text,Q4 n.ats,Zq n.ats⟩
def TN.zeroK:TN:=⟨0,⟨#[]⟩,0,⟨#[]⟩,[],none,0,0⟩
def ZO (a:List TN) (i:Nat):Qd:=(a.getD i TN.zeroK).nodK
theorem QiD {a:List TN} {i:Nat} (h:i<a.length):ZO a i=a[i].nodK:=by unfold ZO;rw [Xg h];rfl
theorem ZB.listK {p:Nat} {w:World} {ao:Option Addr} {n c:Nat} {a:List TN} (h:ZB p w (.slice ao n c) a) (l:n=a.length) (s:a.length<=1000000) (j:∀ x,x ∈ a->x.ats.length<=5):QaU w ao n (ZO a):=by
 subst l;intro t;rcases h.row.2 with ⟨e,_⟩|⟨g,cap,q,e,_,m,_⟩
 ·simp at e;omega
 simp at e;obtain ⟨rfl,rfl⟩:=e;have k:g<w.heap.size:=(Array.getElem?_eq_some_iff.1 m).1;refine ⟨g,0,rfl,k,λi f=>?_⟩;have b:=h.node _ (getElem_mem f);have u:=j _ (getElem_mem f);have d:∀ r,r<5->w.cell? (Xa g (0+i*5+r))=a[i].cells[r]?:=λr o=>by rw [Nat.zero_add,h.row.cellAt (i*5+r) (by omega),Qle a i r f o]
 rw [QiD f];refine ⟨d 0 (by omega),d 1 (by omega),d 2 (by omega),d 3 (by omega),d 4 (by omega),⟨?_,b.tag,b.text,Qj4 b.row b.an b.size⟩⟩;show a[i].an<=maxLen;rw [b.an];unfold maxLen;omega
theorem QtM {R:List RN} {g:List (Nat × Int)} {b:List TN} (h:JU R g b) (c:∀ n,n ∈ R->n.ats.length<=5):∀ x,x ∈ b->x.ats.length<=5:=λx d=>by obtain ⟨i,a,rfl⟩:=getElem_of_mem d;obtain ⟨f,_,_,_,_,e⟩:=h.2 i (by rw [<- h.1];exact a) a;rw [e];exact c _ (getElem_mem f)
theorem Qiw {R:List RN} {last:Int} (h:QE R last):∃ r,∃ c:r<R.length,R[r].id=1/\QX R 1=(r:Int):=by
 obtain ⟨n,a,b,_⟩:=h.root;rcases QaH h.ids 1 with e|⟨e,_⟩
 ·exact e
 exact absurd b (e n a)
theorem Qko {R:List RN} {last:Int} (h:QE R last) {r:Nat} (b:r<R.length) (d:Int):(QF R R.length r d).length<=R.length:=by obtain ⟨rk,a⟩:=h.up;exact Qmy a h.ids (QaA a b)
structure Z7 (ρ:Qo) (nb:Int->Nat) (mb q db:Nat) (w:World) (R:List RN) (last:Int):Prop where
 blk:w.heap[db]?=some (.cells #[Xp q] 94 (0,0))
 out:ρ db=none
 dom:Qi ρ nb mb (some (nb 1)) w q R last
 ok:QE R last
 fine:ZA R
def Qga (c a:Qo):Prop:=∀ b,(c b).isSome=true->a b=none
theorem Z7.below {b:Qo} {nb:Int->Nat} {c q a:Nat} {w w':World} {R:List RN} {last:Int} (h:Z7 b nb c q a w R last) (hb:Below w.heap.size w w'):Z7 b nb c q a w' R last := ⟨(hb.block a (QN h.blk)).trans h.blk,h.out,h.dom.below hb,h.ok,h.fine⟩
theorem Z7.other {f d c:Qo} {nb:Int->Nat} {j q a:Nat} {w w':World} {R:List RN} {last:Int} (h:Z7 f nb j q a w R last) (k:Qga f d) (l:d a=none) (g:QV d c w w'):Z7 f nb j q a w' R last/\Qga f c/\c a=none:=by
 have m:∀ b,b<w.heap.size->d b=none->c b=none:=λb hb e=>by
  cases n:c b with
  | none=>rfl
  | some v =>
   rcases g.2.2 b (by rw [n];rfl) with i|i
   ·rw [e] at i;cases i
   omega
 refine ⟨⟨(g.1.block a (QN h.blk) (by rw [l];simp)).trans h.blk,h.out,h.dom.touch g.1 λb e=>by rw [k b e];simp,h.ok,h.fine⟩,λb e=>m b (h.dom.low b e) (k b e),m a (QN h.blk) l⟩
theorem Qo9 (b h n c:Nat) (L:Nat->Qd) (w:World) (t:n<=maxLen) (r:QaU w (some (Xa b h)) n L) (u:(J8 (QQ L) n).1=0) : Xl 17 #[.slice (some (Xa b h)) n c] w λe w'=>∃ a nb d q l,e=.returned (.tuple #[Xp l,Xi 0,Xi 0])/\w.heap.size<=l/\(∀ b,(a b).isSome=true->w.heap.size<=b)/\Z7 a nb d q l w' (QC L n) n/\Below w.heap.size w w':=by
 obtain ⟨x,i,s,k⟩:=Qkm u;have o:=QgK (some (Xa b h)) n c L w t r;rw [x] at o;obtain ⟨A,B,e,y⟩:=r i;cases e;have z:=Qmr b h n c L w i s y (QdY.of i k) (Qa o);refine (QtE (some (Xa b h)) n c w (λq w'=>∃ a nb d,w.heap.size<=q/\(∀ b,(a b).isSome=true->w.heap.size<=b)/\Qi a nb d (some (nb 1)) w' q (QC L n) n/\Below w.heap.size w w') (Qa (z.mono ?_))).mono ?_
 ·rintro e w' ⟨a,nb,d,q,rfl,p,m,j,f⟩;exact ⟨q,rfl,a,nb,d,p,m,j,f⟩
 rintro e C ⟨q,g,⟨a,nb,d,p,m,j,f⟩,rfl,rfl⟩;refine ⟨a,nb,d,q,g.heap.size,rfl,f.size,m,⟨by show (g.heap.push _)[g.heap.size]?=_;simp,?_,j.below Xd,Qg0 i k,QjD k⟩,f.alloc f.size _⟩;cases e:a g.heap.size with| none=>rfl| some v=>have:=j.low g.heap.size (by rw [e];rfl);omega
theorem QsI (f:Qo) (nb:Int->Nat) (g q b:Nat) (w:World) (R:List RN) (last:Int) (h:Z7 f nb g q b w R last) (ao:Option Addr) (n c:Nat) (X:Nat->Qn) (A:last+n<=4611686018427387904) (B:n<=2199023255552) (C:Qd4 w ao n X) (u:0<n->∀ a,ao=some a->f a.block=none) (D:∀ i,i<n->(X i).Ok/\(X i).Ints) : Xl 19 #[Xp b,.slice ao n c] w λe w'=>∃ x r,e=.returned (.tuple #[Xi x,Xi r])/\∃ k,k<=n/\Qam R last X k/\(∃ d ρ',QV f ρ' w w'/\Z7 ρ' d g q b w' (QP R last X k).1 (QP R last X k).2)/\((k=n/\x=0/\r=0) \/ (k<n/\canP (QP R last X k).1 (QP R last X k).2 (X k)=false/\x=4/\r=k)):=by
 refine QnG b q w ao n c _ (Qf h.blk 0 _ rfl) (Qa ((Qlj f nb g w q R last h.dom h.ok h.fine ao n c X A B C u D).mono ?_));rintro e w' ⟨k,s,l,⟨d,ρ',j,E⟩,y⟩;obtain ⟨F,G,_⟩:=l.ok h.ok h.fine;have z:ρ' b=none:=by
  cases H:ρ' b with
  | none=>rfl
  | some v =>
   rcases j.2.2 b (by rw [H];rfl) with m|m
   ·rw [h.out] at m;cases m
   have:=QN h.blk;omega
 have t:Z7 ρ' d g q b w' (QP R last X k).1 (QP R last X k).2:=⟨(j.1.block b (QN h.blk) (by rw [h.out];simp)).trans h.blk,z,E,F,G⟩;rcases y with ⟨o,p⟩|⟨o,p,I⟩
 ·exact ⟨0,0,p,k,s,l,⟨d,ρ',j,t⟩,.inl ⟨o,rfl,rfl⟩⟩
 exact ⟨4,k,I,k,s,l,⟨d,ρ',j,t⟩,.inr ⟨o,p,rfl,rfl⟩⟩
theorem QrJ (c:Qo) (nb:Int->Nat) (d q b:Nat) (w:World) (R:List RN) (last:Int) (h:Z7 c nb d q b w R last) (r:Nat) (g:r<R.length) (f:R[r].id=1) : Xl 21 #[Xp b] w λe w'=>∃ v,e=.returned v/\∃ a,ZB w.heap.size w' v a/\JU R (QF R R.length r 0) a/\Below w.heap.size w w' := Qr4 b q w _ (Qf h.blk 0 _ rfl) (Qa ((Qlk c nb d w q R last h.dom h.ok r g f).mono λ_ _ ⟨v,a,i,j,k,l⟩=>⟨v,i,a,j,k,l⟩))
theorem Qng (b:Qo) (nb:Int->Nat) (c q a:Nat) (w:World) (R:List RN) (last:Int) (h:Z7 b nb c q a w R last) (r:Nat) (f:r<R.length) (d:R[r].id=1) : Xl 22 #[Xp a] w λe w'=>∃ v,e=.returned v/\w'.ownsRow w.heap.size 3 1 v (Qv R R.length r).length (Qt (Qv R R.length r))/\Below w.heap.size w w' := QrH a q w _ (Qf h.blk 0 _ rfl) (Qa (Qla b nb c w q R last h.dom h.ok r f d))
theorem QnO (b:Qo) (nb:Int->Nat) (d q a:Nat) (w:World) (R:List RN) (last:Int) (h:Z7 b nb d q a w R last) (j:Qe5 R) (g:last+400<=4611686018427387904) (ao:Option Addr) (n c:Nat) (L:Nat->Qd) (l:n<=maxLen) (m:n<=c) (o:QaU w ao n L) (p:∀ i,i<n->Qg (L i).k) : Xl 18 #[Xp a,.slice ao n c] w λe w'=>∃ v x f,e=.returned (.tuple #[v,Xi x,Xi f])/\x=(QaS R L n).1/\f=(QaS R L n).2/\w'.ownsRow w.heap.size 60 8 v (if (QaS R L n).1=0 then Qa4 R last L n else []).length (Qbh (if (QaS R L n).1=0 then Qa4 R last L n else []))/\Below w.heap.size w w' := Qot a q w ao n c _ (Qf h.blk 0 _ rfl) (Qa ((QiR b nb d w q R last h.dom h.ok h.fine j g ao n c L l m o p).mono λ_ _ ⟨v,r,s,t⟩=>⟨v,_,_,r,rfl,rfl,s,t⟩))
def Q7 (i:Nat):Qd:=if i=0 then ⟨0,⟨#[100,105,118]⟩,0,none,0,0,⟨#[]⟩,λ_=>⟨#[]⟩,λ_=>⟨#[]⟩⟩ else ⟨1,⟨#[112]⟩,i,none,0,0,⟨#[]⟩,λ_=>⟨#[]⟩,λ_=>⟨#[]⟩⟩
def Zb (i:Nat):Qd:=if i=0 then ⟨0,⟨#[100,105,118]⟩,0,none,0,0,⟨#[]⟩,λ_=>⟨#[]⟩,λ_=>⟨#[]⟩⟩ else ⟨1,⟨#[112]⟩,3-i,none,0,0,⟨#[]⟩,λ_=>⟨#[]⟩,λ_=>⟨#[]⟩⟩
def Zd (a b:Int):Array Value:=#[Xi 0,.string ⟨#[100,105,118]⟩,Xi 0,Xv,Xo,Xi 1,.string ⟨#[112]⟩,Xi a,Xv,Xo,Xi 1,.string ⟨#[112]⟩,Xi b,Xv,Xo]
theorem Qt1 (w:World) (t:TypeId):QaU (w.alloc (.cells (Zd 1 2) t)) (some (Xa w.heap.size 0)) 3 Q7:=by
 intro _
 refine ⟨w.heap.size,0,rfl,by simp,λi c=>?_⟩
 have a:∀ n:Nat,n<=8->n<=maxLen:=λn h=>by unfold maxLen;omega
 match i,c with
 | 0,_=>exact ⟨by simp [go_sem,Q7,Zd],by simp [go_sem,Q7,Zd],by simp [go_sem,Q7,Zd],by simp [go_sem,Q7,Zd],by simp [go_sem,Q7,Zd],⟨by simp [Q7],a _ (by decide),a _ (by decide),λj b=>absurd b (by simp [Q7])⟩⟩
 | 1,_=>exact ⟨by simp [go_sem,Q7,Zd],by simp [go_sem,Q7,Zd],by simp [go_sem,Q7,Zd],by simp [go_sem,Q7,Zd],by simp [go_sem,Q7,Zd],⟨by simp [Q7],a _ (by decide),a _ (by decide),λj b=>absurd b (by simp [Q7])⟩⟩
 | 2,_=>exact ⟨by simp [go_sem,Q7,Zd],by simp [go_sem,Q7,Zd],by simp [go_sem,Q7,Zd],by simp [go_sem,Q7,Zd],by simp [go_sem,Q7,Zd],⟨by simp [Q7],a _ (by decide),a _ (by decide),λj b=>absurd b (by simp [Q7])⟩⟩
theorem Qsu (w:World) (t:TypeId):QaU (w.alloc (.cells (Zd 2 1) t)) (some (Xa w.heap.size 0)) 3 Zb:=by
 intro _
 refine ⟨w.heap.size,0,rfl,by simp,λi c=>?_⟩
 have a:∀ n:Nat,n<=8->n<=maxLen:=λn h=>by unfold maxLen;omega
 match i,c with
 | 0,_=>exact ⟨by simp [go_sem,Zb,Zd],by simp [go_sem,Zb,Zd],by simp [go_sem,Zb,Zd],by simp [go_sem,Zb,Zd],by simp [go_sem,Zb,Zd],⟨by simp [Zb],a _ (by decide),a _ (by decide),λj b=>absurd b (by simp [Zb])⟩⟩
 | 1,_=>exact ⟨by simp [go_sem,Zb,Zd],by simp [go_sem,Zb,Zd],by simp [go_sem,Zb,Zd],by simp [go_sem,Zb,Zd],by simp [go_sem,Zb,Zd],⟨by simp [Zb],a _ (by decide),a _ (by decide),λj b=>absurd b (by simp [Zb])⟩⟩
 | 2,_=>exact ⟨by simp [go_sem,Zb,Zd],by simp [go_sem,Zb,Zd],by simp [go_sem,Zb,Zd],by simp [go_sem,Zb,Zd],by simp [go_sem,Zb,Zd],⟨by simp [Zb],a _ (by decide),a _ (by decide),λj b=>absurd b (by simp [Zb])⟩⟩
theorem Qnu:(J8 (QQ Q7) 3).1=0:=by decide +kernel
theorem QsP:QaS (QC Q7 3) Zb 3=(0,0):=by decide +kernel
def knP:Qn:=⟨2,3,1,2,0,⟨#[]⟩,⟨#[]⟩,⟨#[]⟩⟩
theorem Qnd:Qa4 (QC Q7 3) 3 Zb 3=[knP]:=by kernel_rfl
def knR:List RN:=[ZQ Q7 0,ZQ Q7 2,ZQ Q7 1]
theorem QuU:QU (QC Q7 3) knP=knR:=by kernel_rfl
theorem Qrv:Qv knR 3 0=[1,3,2]:=by kernel_rfl
theorem Qnc:QF knR 3 0 0=[(0,0),(1,1),(2,1)]:=by kernel_rfl
theorem QqY:canP (QC Q7 3) 3 knP=true:=by
 have a:¬ QbQ (QC Q7 3) 1 3:=by
  rintro ⟨m,e⟩;have b:upP (QC Q7 3) 1=0:=by kernel_rfl
  cases m with| zero=>cases e| succ m=>rw [Zp,b,QdT] at e;cases e
 unfold canP;rw [if_neg (by decide),if_pos (by decide)];unfold insB;have c:∀ i:Decidable (QbQ (QC Q7 3) knP.par knP.id),@decide _ i=false:=λi=>decide_eq_false a;rw [c];decide +kernel
def Qol:Qn:=⟨0,0,0,0,0,⟨#[]⟩,⟨#[]⟩,⟨#[]⟩⟩
def Qbl (P:List Qn) (i:Nat):Qn:=P.getD i Qol
theorem QnE (P:List Qn):∀ j,j<P.length*8->(Qbh P)[j]?=some (Qfe (Qbl P) j):=by
 induction P with
 | nil=>intro j a;simp at a
 | cons x P ih =>
  intro j a
  have e:Qbh (x::P)=x.cells++Qbh P:=by unfold Qbh;rw [flatMap_cons]
  rw [e]
  by_cases b:j<8
  ·rw [getElem?_append_left (by show j<8;exact b)]
   match j,b with
   | 0,_=>rfl
   | 1,_=>rfl
   | 2,_=>rfl
   | 3,_=>rfl
   | 4,_=>rfl
   | 5,_=>rfl
   | 6,_=>rfl
   | 7,_=>rfl
  ·rw [getElem?_append_right (by show 8<=j;omega)]
   have c:j-x.cells.length=j-8:=rfl
   rw [c,ih (j-8) (by simp at a;omega)]
   unfold Qfe
   have d:j / 8=(j-8) / 8+1:=by omega
   have f:(j-8) % 8=j % 8:=by omega
   rw [d,f]
   rfl
theorem Qku {w:World} {d:Nat} {ao:Option Addr} {n c:Nat} {P:List Qn} (h:w.ownsRow d 60 8 (.slice ao n c) n (Qbh P)) (i:n=P.length):Qd4 w ao n (Qbl P):=λk=>by
 rcases h.2 with ⟨e,l⟩|⟨g,cap,f,e,hb,a,_⟩
 ·omega
 simp at e;obtain ⟨rfl,rfl⟩:=e;refine ⟨g,0,rfl,(Array.getElem?_eq_some_iff.1 a).1,λj b=>?_⟩;rw [Nat.zero_add,h.cellAt j b,QnE P j (by omega)]
theorem Qq1 {L:Nat->Qd} {n:Nat} (h:∀ i,i<n->Qg (L i).k):Qe5 (QC L n):=λm b=>by obtain ⟨i,a,rfl⟩:=getElem_of_mem b;rw [Qax];rw [J5] at a;exact h i a
theorem QoY:∀ i,i<3->Qg (Q7 i).k:=λi a=>by
 match i,a with
 | 0,_=>exact ⟨by decide,by decide⟩
 | 1,_=>exact ⟨by decide,by decide⟩
 | 2,_=>exact ⟨by decide,by decide⟩
theorem Qt3:∀ i,i<3->Qg (Zb i).k:=λi a=>by
 match i,a with
 | 0,_=>exact ⟨by decide,by decide⟩
 | 1,_=>exact ⟨by decide,by decide⟩
 | 2,_=>exact ⟨by decide,by decide⟩
theorem Qm9 (b:Qo) (nb:Int->Nat) (g q d:Nat) (w:World) (h:Z7 b nb g q d w (QC Q7 3) 3) (ao:Option Addr) (c:Nat) (o:w.ownsRow 0 60 8 (.slice ao 1 c) 1 (Qbh [knP])) (n:∀ a,ao=some a->b a.block=none) : Xl 19 #[Xp d,.slice ao 1 c] w λe w'=>e=.returned (.tuple #[Xi 0,Xi 0])/\∃ f ρ',QV b ρ' w w'/\Z7 ρ' f g q d w' knR 3:=by
 refine (QsI b nb g q d w (QC Q7 3) 3 h ao 1 c (Qbl [knP]) (by decide) (by decide) (Qku o rfl) (λ_=>n) (λi t=>?_)).mono ?_
 ·have:i=0:=by omega
  subst this;refine ⟨⟨?_,?_,?_⟩,⟨?_,?_,?_⟩⟩
  ·show (0:Nat)<=_;exact Nat.zero_le _
  ·show (0:Nat)<=_;exact Nat.zero_le _
  ·show (0:Nat)<=_;exact Nat.zero_le _
  ·exact ⟨by decide,by decide⟩
  ·exact ⟨by decide,by decide⟩
  exact ⟨by decide,by decide⟩
 rintro e w' ⟨x,z,rfl,k,u,v,⟨f,ρ',r,l⟩,p⟩;rcases p with ⟨rfl,rfl,rfl⟩|⟨y,m,_⟩
 ·refine ⟨rfl,f,ρ',r,?_⟩;have j:(QP (QC Q7 3) 3 (Qbl [knP]) 1).1=knR:=QuU;have s:(QP (QC Q7 3) 3 (Qbl [knP]) 1).2=3:=by kernel_rfl
  rw [j,s] at l;exact l
 have:k=0:=by omega
 subst this;have j:canP (QP (QC Q7 3) 3 (Qbl [knP]) 0).1 (QP (QC Q7 3) 3 (Qbl [knP]) 0).2 (Qbl [knP] 0)=canP (QC Q7 3) 3 knP:=rfl;rw [j,QqY] at m;cases m
theorem QtK {a:List TN} (h:JU knR [(0,0),(1,1),(2,1)] a) (q:∀ n,n ∈ a->n.an=n.ats.length):a.length=3/\∀ i,i<3->(ZO a i).d=(Zb i).d/\(ZO a i).t=(Zb i).t/\(ZO a i).k=(Zb i).k/\(ZO a i).x=(Zb i).x/\(ZO a i).an=(Zb i).an/\∀ j,j<(Zb i).an->(ZO a i).nm j=(Zb i).nm j/\(ZO a i).vl j=(Zb i).vl j:=by
 have r:a.length=3:=h.1
 refine ⟨r,λi p=>?_⟩
 have f:i<a.length:=by omega
 have s:=h.2 i (by exact p) f
 have c:=q _ (getElem_mem f)
 rw [QiD f]
 obtain ⟨v,g,l,m,o,u⟩:=s
 rw [u] at c
 match i,p with
 | 0,_=>exact ⟨g,l,m,o,c,λj b=>absurd b (Nat.not_lt_zero _)⟩
 | 1,_=>exact ⟨g,l,m,o,c,λj b=>absurd b (Nat.not_lt_zero _)⟩
 | 2,_=>exact ⟨g,l,m,o,c,λj b=>absurd b (Nat.not_lt_zero _)⟩
theorem QpJ {w:World} {b:Nat} {t:TypeId} (h:w.heap[b]?=some (.cells (Zd 2 1) t (0,0))):QaU w (some (Xa b 0)) 3 Zb:=by
 intro _
 refine ⟨b,0,rfl,QN h,λi d=>?_⟩
 have a:∀ n:Nat,n<=8->n<=maxLen:=λn h=>by unfold maxLen;omega
 match i,d with
 | 0,_=>exact ⟨Qf h 0 _ rfl,Qf h 1 _ rfl,Qf h 2 _ rfl,Qf h 3 _ rfl,Qf h 4 _ rfl,⟨Nat.zero_le _,a _ (by decide),a _ (by decide),λj c=>absurd c (Nat.not_lt_zero _)⟩⟩
 | 1,_=>exact ⟨Qf h 5 _ rfl,Qf h 6 _ rfl,Qf h 7 _ rfl,Qf h 8 _ rfl,Qf h 9 _ rfl,⟨Nat.zero_le _,a _ (by decide),a _ (by decide),λj c=>absurd c (Nat.not_lt_zero _)⟩⟩
 | 2,_=>exact ⟨Qf h 10 _ rfl,Qf h 11 _ rfl,Qf h 12 _ rfl,Qf h 13 _ rfl,Qf h 14 _ rfl,⟨Nat.zero_le _,a _ (by decide),a _ (by decide),λj c=>absurd c (Nat.not_lt_zero _)⟩⟩
theorem QtJ (m:Qo) (nb:Int->Nat) (o q b:Nat) (w:World) (h:Z7 m nb o q b w knR 3) : Xl 21 #[Xp b] w λe w'=>∃ ao c a,e=.returned (.slice ao 3 c)/\QaU w' ao 3 (ZO a)/\(∀ i,i<3->(ZO a i).d=(Zb i).d/\(ZO a i).t=(Zb i).t/\(ZO a i).k=(Zb i).k/\(ZO a i).x=(Zb i).x/\(ZO a i).an=(Zb i).an/\∀ j,j<(Zb i).an->(ZO a i).nm j=(Zb i).nm j/\(ZO a i).vl j=(Zb i).vl j)/\Below w.heap.size w w':=by refine (QrJ m nb o q b w knR 3 h 0 (by decide) rfl).mono ?_;rintro e w' ⟨v,rfl,a,f,g,hb⟩;have r:QF knR knR.length 0 0=[(0,0),(1,1),(2,1)]:=Qnc;rw [r] at g;obtain ⟨s,u⟩:=QtK g λn l=>(f.node n l).an;obtain ⟨ao,c,rfl⟩:=Qz f.row;have p:=f.listK rfl (by omega) (QtM g λn l=>by obtain ⟨z,A,y⟩:=h.dom.node n l;exact y.few);rw [s] at p ⊢;exact ⟨ao,c,a,rfl,p,u,hb⟩
theorem QpF (d:Qo) (nb:Int->Nat) (f q b:Nat) (w:World) (h:Z7 d nb f q b w knR 3) : Xl 22 #[Xp b] w λe w'=>∃ g c,e=.returned (Xe g 3 c)/\w'.cell? (Xa g 1)=some (Xi 3)/\w'.cell? (Xa g 2)=some (Xi 2)/\Below w.heap.size w w':=by refine (Qng d nb f q b w knR 3 h 0 (by decide) rfl).mono ?_;rintro e w' ⟨v,rfl,a,hb⟩;have k:Qv knR knR.length 0=[1,3,2]:=Qrv;rw [k] at a;obtain ⟨ao,c,rfl⟩:=Qz a;obtain ⟨g,o,e,_,l⟩:=Qd0 a (j:=1) (by decide);obtain ⟨p,n,i,_,m⟩:=Qd0 a (j:=2) (by decide);rw [e] at i;cases i;subst e;exact ⟨g,c,rfl,l,m,hb⟩
theorem QjI {w1 w2:World} {a:Obj} (h:Below (w1.heap.size+1) (w1.alloc a) w2):Below w1.heap.size w1 w2:=((Below.refl w1.heap.size w1).alloc (Nat.le_refl _) a).trans (h.mono (Nat.le_succ _))
theorem Qmu {a:Qo} {nb:Int->Nat} {b q c:Nat} {w:World} {R:List RN} {last:Int} (h:Z7 a nb b q c w R last) {g:Nat} (d:w.heap.size+1<=g):a g=none:=by cases e:a g with| none=>rfl| some v=>have:=h.dom.low g (by rw [e];rfl);omega
theorem Qt4 {a g:Qo} {nb:Int->Nat} {j q k:Nat} {w1 w2 b c:World} {R:List RN} {last:Int} (h:Z7 a nb j q k w1 R last) {t:TypeId} (d:Below (w1.heap.size+1) (w1.alloc (.cells (Zd 2 1) t)) w2) (f:QV a g w2 b) (l:Below b.heap.size b c):c.heap[w1.heap.size]?=some (.cells (Zd 2 1) t (0,0)):=by
 have m:(w1.alloc (.cells (Zd 2 1) t)).heap.size=w1.heap.size+1:=by simp
 have n:=d.size;have o:=f.1.size;have i:a w1.heap.size=none:=by cases e:a w1.heap.size with| none=>rfl| some v=>have:=h.dom.low w1.heap.size (by rw [e];rfl);omega
 rw [l.block _ (by omega),f.1.block _ (by omega) (by rw [i];simp),d.block _ (by omega)];show (w1.heap.push _)[w1.heap.size]?=_;simp
theorem Qok {f m:Qo} {nb:Int->Nat} {n q o:Nat} {w1 w2 a b c d:World} {R:List RN} {last:Int} (h:Z7 f nb n q o w1 R last) {g:Nat} (p:w1.heap.size+1<=g) {v:Value} (i:Xc w2 g 0 v) (j:QV f m w2 a) (k:Below a.heap.size a b) (l:Below b.heap.size b c) (r:Below c.heap.size c d):d.cell? (Xa g 0)=some v:=by have s:g<w2.heap.size:=World.block_lt_of_cell? _ _ i;have t:=j.1.size;have u:=k.size;have x:=l.size;rw [<- i];refine World.cell?_of_block ?_;show d.heap[g]?=w2.heap[g]?;rw [r.block _ (by omega),l.block _ (by omega),k.block _ (by omega),j.1.block _ s (by rw [Qmu h p];simp)]
theorem Qer (w:World):Xl 6 #[] w λe w'=>e=.returned (.bool true)/\Below w.heap.size w w':=by
 have U:Hid (Xl 17 #[Xe w.heap.size 3 3] (w.alloc (.cells (Zd 1 2) 47)) λe w'=>∃ h nb f q d,e=.returned (.tuple #[Xp d,Xi 0,Xi 0])/\w.heap.size<=d/\(∀ b,(h b).isSome=true->w.heap.size<=b)/\Z7 h nb f q d w' (QC Q7 3) 3/\Below w.heap.size w w'):=Qa (by have hb:Below w.heap.size w (w.alloc (.cells (Zd 1 2) 47)):=Xd;refine (Qo9 w.heap.size 0 3 3 Q7 _ (by decide) (Qt1 w _) Qnu).mono ?_;rintro e w' ⟨h,nb,f,q,d,i,m,s,a5,a6⟩;exact ⟨h,nb,f,q,d,i,Nat.le_trans hb.size m,λb e=>Nat.le_trans hb.size (s b e),a5,hb.trans (a6.mono hb.size)⟩);have V:Hid (∀ h nb f q d w1,Z7 h nb f q d w1 (QC Q7 3) 3->Xl 18 #[Xp d,Xe w1.heap.size 3 3] (w1.alloc (.cells (Zd 2 1) 47)) λe w'=>∃ g c,e=.returned (.tuple #[Xe g 1 c,Xi 0,Xi 0])/\w1.heap.size+1<=g/\w'.cell? (Xa g 0)=some (Xi 2)/\w'.ownsRow 0 60 8 (Xe g 1 c) 1 (Qbh [knP])/\Below (w1.heap.size+1) (w1.alloc (.cells (Zd 2 1) 47)) w'):=Qa λh nb f q d w1 a7=>by
  have hb:Below w1.heap.size w1 (w1.alloc (.cells (Zd 2 1) 47)):=Xd;have a8:(w1.alloc (.cells (Zd 2 1) 47)).heap.size=w1.heap.size+1:=by simp
  refine (QnO h nb f q d _ (QC Q7 3) 3 (a7.below hb) (Qq1 QoY) (by decide) (some (Xa w1.heap.size 0)) 3 3 Zb (by decide) (by decide) (Qsu w1 _) Qt3).mono ?_;rintro e w' ⟨v,x,ap,rfl,rfl,rfl,i,m⟩;rw [QsP] at i ⊢;rw [if_pos rfl,Qnd] at i;rw [a8] at i m;rcases i.2 with ⟨_,a9⟩|⟨g,cap,W,rfl,n,s⟩
  ·cases a9
  exact ⟨g,cap,rfl,n,i.cellAt 0 (by decide),⟨i.1,.inr ⟨g,cap,W,rfl,Nat.zero_le _,s⟩⟩,m⟩
 go_enter Tryz.func6,Tryz.ntmps6;go_wp2_with (first|(go_at_call 17;refine (Qb U).mono ?_;rintro e w1 ⟨h,nb,f,q,d,rfl,X,u,y,z⟩;have k:=Qa y;have A:=Qa z;have Y:=Qa u;clear y z u X)|(go_at_call 18;refine (Qb V _ _ _ _ _ _ k.out).mono ?_;rintro e w2 ⟨g,c,rfl,n,M,B,C⟩;have a0:=Qa B;have o:=Qa C;have N:=Qa n;have aa:=Qa M;clear B C n M)|(go_at_call 19;refine (Qm9 h nb f q d w2 (k.out.below (QjI o.out)) _ c a0.out (λa e=>by cases e;exact Qmu k.out N.out)).mono ?_;rintro e O ⟨rfl,D,E,F,G⟩;have j:=Qa F;have H:=Qa G;clear F G)|(go_at_call 21;refine (QtJ E D f q d O H.out).mono ?_;rintro e ab ⟨ac,ad,ae,rfl,I,J,K⟩;have a1:=Qa I;have a2:=Qa J;have l:=Qa K;clear I J K)|(go_at_call 20;refine (QnA ac _ 3 ad 3 (ZO ae) Zb ab (by decide) a1.out (QpJ (t:=47) (Qt4 k.out o.out j.out l.out)) a2.out).mono ?_;rintro e af ⟨rfl,L⟩;have p:=Qa L;clear L)|(go_at_call 22;refine (QpF E D f q d af ((H.out.below l.out).below p.out)).mono ?_;rintro e ai ⟨aj,ak,rfl,ag,al,r⟩;have a3:=Qok k.out N.out aa.out j.out l.out p.out r;have ao:=World.block_lt_of_cell? _ _ a3;have ah:=World.block_lt_of_cell? _ _ ag;have a4:=Qa r;clear r));go_ret;refine ⟨rfl,?_⟩;have P:=A.out.trans ((QjI o.out).mono A.out.size);have R:Below w.heap.size w O:=P.trans ⟨j.out.1.os,j.out.1.tape,j.out.1.output,j.out.1.size,λb hb=>j.out.1.block b (Nat.lt_of_lt_of_le hb P.size) (λe=>by have:=Y.out b e;omega)⟩;have S:=R.trans (l.out.mono R.size);have T:=S.trans (p.out.mono S.size);exact T.trans (a4.out.mono T.size)
structure Qq9 (w0 w:World) (d1 d2:Nat) (R1 R2:List RN) (l1 l2:Int) (ρ1 ρ2:Qo) (n1 n2:Int->Nat) (m1 m2 q1 q2:Nat):Prop where
 one:Z7 ρ1 n1 m1 q1 d1 w R1 l1
 two:Z7 ρ2 n2 m2 q2 d2 w R2 l2
 a12:Qga ρ1 ρ2
 a21:Qga ρ2 ρ1
 o12:ρ1 d2=none
 o21:ρ2 d1=none
 bel:Xb w0 w
 b1:∀ b,(ρ1 b).isSome=true->w0.heap.size<=b
 b2:∀ b,(ρ2 b).isSome=true->w0.heap.size<=b
def Two (c w:World) (d f:Nat) (g h:List RN) (i j:Int):Prop:=∃ a b k l m n o p,Qq9 c w d f g h i j a b k l m n o p
theorem Two.below {a w w':World} {b c:Nat} {d f:List RN} {g i:Int} (h:Two a w b c d f g i) (hb:Xb w w'):Two a w' b c d f g i:=by obtain ⟨j,k,l,m,n,o,p,q,h⟩:=h;exact ⟨j,k,l,m,n,o,p,q,h.one.below hb,h.two.below hb,h.a12,h.a21,h.o12,h.o21,h.bel.trans (hb.mono h.bel.size),h.b1,h.b2⟩
theorem Two.bel {a w:World} {b c:Nat} {d f:List RN} {g i:Int} (h:Two a w b c d f g i):Xb a w:=by obtain ⟨j,k,l,m,n,o,p,q,h⟩:=h;exact h.bel
theorem Qfx {R:List RN} {last:Int} (h:QE R last) {r:Nat} (a:r<R.length) (j:R[r].id=1):(Qv R R.length r).length=(QF R R.length r 0).length/\(Qv R R.length r).getD 0 0=1/\0<(Qv R R.length r).length/\(Qv R R.length r).length<=R.length/\(Qv R R.length r).Nodup:=by
 obtain ⟨rk,b⟩:=h.up;have e:=QfN R R.length r 0;have m:(Qv R R.length r).length=(QF R R.length r 0).length:=by rw [<- e,length_map]
 have q:=Qko h a 0;have c:∃ l,Qv R R.length r=1::l:=by cases s:R.length with| zero=>omega| succ f=>exact ⟨_,by rw [Qv,QS a,j]⟩
 obtain ⟨l,c⟩:=c;refine ⟨m,by rw [c];rfl,by rw [c];simp,by omega,?_⟩;rw [<- e];have d:=Qhh b h.ids R.length r 0 (QaA b a);unfold List.Nodup at d ⊢;rw [pairwise_map] at d ⊢;refine d.imp_of_mem fun {x p} n o k e=>k ?_;have g:=(QcL h.ids _ _ _ (QaA b a) x n).1;have i:=(QcL h.ids _ _ _ (QaA b a) p o).1;rw [QS g,QS i] at e;exact h.ids.inj _ _ g i e
theorem QkK:Tryz.prog.cellsOf 3=1:=by kernel_rfl
theorem Qmc {n:Int} (h:(Lit.int .i64 n).wf=true):Qg n:=by
 unfold Lit.wf at h;rw [Bool.and_eq_true] at h;have a:IntKind.min .i64<=n:=of_decide_eq_true h.1;have b:n<=IntKind.max .i64:=of_decide_eq_true h.2;have c:IntKind.min .i64=-9223372036854775808:=by decide
 have d:IntKind.max .i64=9223372036854775807:=by decide
 rw [c] at a;rw [d] at b;exact ⟨a,b⟩
section
variable {H : Type} {enc : TypeId × Value → H} {W : World} {base : Nat} {spare : Nat → Bool} {held : Bool} {fuel : Nat}
theorem Qh3 {a:Addr} (h:a.spot=none) (j:Nat):a.add j=(Xa a.block (a.off+j)):=by obtain ⟨b,c,s⟩:=a;cases h;exact QdW b c j
end
end Go.Proofs.YtobgcaemnpkbmaaGreatDoor
