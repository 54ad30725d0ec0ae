import Derived.Test.YtobgcaemnpkbmaaGreatDoorC27
import Derived.Test.YtobgcaemnpkbmaaGreatDoorC24
namespace Go.Proofs.YtobgcaemnpkbmaaGreatDoor
set_option maxRecDepth 100000
set_option maxHeartbeats 8000000
open Go.RowKit List
theorem QfL:∀ (l m:List Int),l.Nodup->(∀ a,a ∈ l->a ∈ m)->l.length<=m.length
 | [],_,_,_=>Nat.zero_le _
 | a::l,m,hn,h=>by
  obtain ⟨f,g⟩:=nodup_cons.1 hn;have c:=h a (mem_cons_self ..);have:=QfL l (m.erase a) g λb hb=>by
   have d:b≠a:=λe=>by rw [e] at hb;exact f hb
   exact (mem_erase_of_ne d).2 (h b (mem_cons_of_mem _ hb))
  rw [length_erase_of_mem c] at this;have:=length_pos_of_mem c;simp only [length_cons];omega
theorem QmC {R:List RN} {L:Nat->Qd}:∀ (f:Nat) (id:Int) (s n:Nat) (j:Int),Qbk L s n->Jm R L f id s n->Qw (Qc R) id j->∃ i,i<n/\(Qc R j).tag=(L (s+i)).t/\(Qc R j).key=(L (s+i)).k/\(Qc R j).text=(L (s+i)).x/\(Qc R j).ats=Zn (L (s+i))
 | 0,_,_,_,_,_,h,_=>h.elim
 | f+1,id,s,n,j,hpc,⟨h1,h2,h3,h4,h5,h6,h7⟩,b=>by
  rcases Jo.1 b with e|⟨c,g,b⟩
  ·rw [e];exact ⟨0,hpc.pos,h2,h3,h4,h5⟩
  obtain ⟨k,l,rfl⟩:=getElem_of_mem g;have a:k<(QD L s n).length:=by omega
  have m:(QD L s n)[k] ∈ QD L s n:=getElem_mem a;have o:(QD L s n).getD k (0,0)=(QD L s n)[k]:=by rw [Xg a];rfl
  have p:(Qc R id).kids.getD k 0=(Qc R id).kids[k]:=by rw [Xg l];rfl
  have d:=h7 k a;rw [p,o] at d;obtain ⟨q,u,_⟩:=hpc.part m;obtain ⟨i,v,r⟩:=QmC f _ _ _ j q d b;refine ⟨(QD L s n)[k].1+i,by omega,?_⟩;rw [<- Nat.add_assoc];exact r
theorem QrY {R:List RN} {i:Int} (h:¬ Qk R i):Qc R i=⟨0,⟨#[]⟩,⟨#[]⟩,[],[]⟩:=by
 unfold Qc;have:R.find? (λn=>n.id==i)=none:=by rw [find?_eq_none];intro n a e;exact h ⟨n,a,by simpa using e⟩
 rw [this]
structure JP (R:List RN) (last:Int) (L:Nat->Qd) (n:Nat):Prop where
 ok:QE R last
 fine:ZA R
 tree:Jm R L n 1 0 n
 all:∀ j,Qk R j->Qw (Qc R) 1 j
 may:∀ i,i<n->QQ L i=true
 pos:0<n
theorem JP.node {R:List RN} {last:Int} {L:Nat->Qd} {n:Nat} (h:JP R last L n) {j:Int} (b:Qk R j):∃ i,i<n/\(Qc R j).tag=(L i).t/\(Qc R j).key=(L i).k/\(Qc R j).text=(L i).x/\(Qc R j).ats=Zn (L i):=by obtain ⟨i,c,a⟩:=QmC n 1 0 n j (Qft h.pos h.may) h.tree (h.all j b);rw [Nat.zero_add] at a;exact ⟨i,c,a⟩
theorem JP.niFine {R:List RN} {last:Int} {L:Nat->Qd} {n:Nat} (h:JP R last L n) (j:Int):Qdv (Qc R j):=by
 by_cases c:Qk R j
 ·obtain ⟨i,g,d,l,k,f⟩:=h.node c;have b:=Qat (h.may i g);refine ⟨by rw [f];exact QhP b,λe=>?_,λe=>?_⟩
  ·rw [d] at e;rw [k];rcases b with a|a
   ·exact (Qeu a).2
   rw [(QeG a).1] at e;cases e
  rw [d] at e;rw [f];rcases b with a|a
  ·rw [(Qeu a).1] at e;cases e
  unfold Zn;rw [(QeG a).2.2];rfl
 rw [QrY c];exact ⟨List.Pairwise.nil,λ_=>rfl,λ_=>rfl⟩
theorem JP.ats {R:List RN} {last:Int} {L:Nat->Qd} {n:Nat} (h:JP R last L n):∀ m,m ∈ R->m.ats.length<=5:=λm b=>by obtain ⟨i,c,_,_,_,a⟩:=h.node ⟨m,b,rfl⟩;rw [JT h.ok.ids b] at a;have a:m.ats=Zn (L i):=a;rw [a,Qdo];exact (Qa0 (Qat (h.may i c))).1
theorem JP.keys {R:List RN} {last:Int} {L:Nat->Qd} {n:Nat} (h:JP R last L n) (c:∀ i,i<n->Qg (L i).k):Qe5 R:=λm b=>by obtain ⟨i,d,_,a,_,_⟩:=h.node ⟨m,b,rfl⟩;rw [JT h.ok.ids b] at a;have a:m.key=(L i).k:=a;rw [a];exact c i d
theorem JP.tells {R:List RN} {last:Int} {L:Nat->Qd} {n:Nat} (h:JP R last L n) {r:Nat} (b:r<R.length) (d:R[r].id=1):QaK R L (QF R R.length r 0) 0/\(QF R R.length r 0).length=n/\(Qv R R.length r).length=n/\R.length=n:=by
 obtain ⟨rk,k⟩:=h.ok.up;have f:=h.ok.ids;have g:=QaA k b;have e:Qj R r=1:=by rw [QS b,d]
 have c:=Qir f n R.length r 0 n (Qft h.pos h.may) (by rw [e];exact h.tree) g;rw [QeR (h.may 0 h.pos)] at c;have l:(Qv R R.length r).length=n:=by rw [(Qfx h.ok b d).1];exact c.2
 refine ⟨c.1,c.2,l,?_⟩;have x:=(Qfx h.ok b d).2.2.2.1;have o:=QfL (R.map (·.id)) (Qv R R.length r) (by
  unfold List.Nodup;rw [pairwise_map,pairwise_iff_getElem];intro i j p q v s;have:=f.inj i j p q s;omega) λa t=>by
  obtain ⟨m,u,rfl⟩:=mem_map.1 t;have:=(QeE f R.length r g m.id).2;rw [e] at this;exact this (h.all _ ⟨m,u,rfl⟩)
 rw [length_map] at o;omega
theorem Qq0 {L:Nat->Qd} {n:Nat} (c:0<n) (b:∀ i,i<n->QQ L i=true):JP (QC L n) n L n:=by
 have p:=Qft c b;have q:Jm (QC L n) L n 1 0 n:=Qkp b n 0 n (Nat.le_refl _) p ⟨by omega,λh=>by omega⟩;refine ⟨Qg0 c b,QjD b,q,λj x=>?_,b,c⟩;have g:=Qg0 c b;have l:=g.ids;obtain ⟨rk,y⟩:=g.up;have f:0<(QC L n).length:=by rw [J5];exact c
 have k:(QC L n)[0].id=1:=by rw [Qax];rfl
 have r:=QaA y f;have e:Qj (QC L n) 0=1:=by rw [QS f,k]
 have s:=(Qir l n (QC L n).length 0 0 n p (by rw [e];exact q) r).2;rw [QeR (b 0 c)] at s;obtain ⟨w1,_,_,_,z⟩:=Qfx g f k;by_cases t:Qw (Qc (QC L n)) 1 j
 ·exact t
 exfalso;have u:j ∈ (QC L n).map (·.id):=by obtain ⟨m,o,e⟩:=x;exact mem_map.2 ⟨m,o,e⟩
 have A:=QfL (Qv (QC L n) (QC L n).length 0) (((QC L n).map (·.id)).erase j) z λa B=>by
  have d:=(QeE l (QC L n).length 0 r a).1 B;rw [e] at d;have v:a≠j:=λC=>by rw [C] at d;exact t d
  obtain ⟨m,o,D⟩:=Qa9 l ⟨(QC L n)[0],getElem_mem f,k⟩ d;exact (mem_erase_of_ne v).2 (mem_map.2 ⟨m,o,D⟩)
 rw [length_erase_of_mem u,length_map,w1,s] at A;have:=J5 L n;omega
theorem JP.diff {R:List RN} {last:Int} {p:Nat->Qd} {q:Nat} (h:JP R last p q) (E:R.length<=400) {L:Nat->Qd} {n:Nat} (d:0<n) (F:n<=400) (c:∀ i,i<n->QQ L i=true) (r:(Qc R 1).tag=(L 0).t) (s:(Qc R 1).key=(L 0).k) : ∃ R' a,Zv R last (Qa4 R last L n) R' a/\JP R' a L n/\last<=a/\a<=last+n/\Qba R' (Qc R) L n 1 (Qc R 1).kids 0 n:=by
 have b:=QgW (R:=R) (by omega) h.ats;obtain ⟨m,u,f,_⟩:=h.ok.root;have l:Qk R 1:=⟨m,u,f⟩;obtain ⟨R',g,v,G,x,H,y⟩:=QkF (L:=L) h.niFine b n R last 1 (Qc R 1) 0 n h.ok h.fine (Nat.le_refl _) (Qft d c) l rfl (h.niFine 1) r s (by omega) (λj _ _=>rfl);obtain ⟨z,A⟩:=g.ok h.ok h.fine;have o:=Qek (L:=L) b n 1 (Qc R 1) 0 n last (b 1).1 (b 1).2 d (Nat.le_refl _) (λi B=>by rw [Nat.zero_add];exact (Qa0 (Qat (c i B))).1);refine ⟨R',_,g,⟨z,A,v,λj C=>?_,c,d⟩,o.2.1,by omega,y⟩;rcases x j C with ⟨f,D⟩|e
 ·exact absurd (h.all j f) D
 exact e
theorem Qin (X:Nat->Qn):∀ (k:Nat) (R:List RN) (l:Int),QP R l X (k+1)=QP (QU R (X 0)) (Jr l (X 0)) (λi=>X (i+1)) k| 0,_,_=>rfl| k+1,R,l=>by rw [QP,Qin X k R l];rfl
theorem Qls {R R':List RN} {l a:Int} {P:List Qn} (h:Zv R l P R' a):Qam R l (Qbl P) P.length/\QP R l (Qbl P) P.length=(R',a):=by
 induction h with
 | nil R l=>exact ⟨Qam.zero R l _,rfl⟩
 | @cons R R' l a x P b g ih =>
  obtain ⟨c,d⟩:=ih;have e:(λi=>Qbl (x::P) (i+1))=Qbl P:=rfl;refine ⟨λj f=>?_,?_⟩
  ·cases j with| zero=>exact b| succ j =>rw [Qin];exact c j (by simpa using f)
  rw [length_cons,Qin];exact d
theorem Qsl {R:List RN} {last:Int} {x:Qn} (h:QE R last) (G:last<=4611686018427387904) (d:canP R last x=true):x.Ok/\x.Ints:=by
 have F:=h.last_pos;have o:∀ i,0<=QX R i->Qg i:=λi j=>by
  rcases QaH h.ids i with ⟨k,r,e,_⟩|⟨_,e⟩
  ·have t:=h.ids.pos _ (getElem_mem r);have u:=h.top _ (getElem_mem r);rw [e] at t u;exact ⟨by omega,by omega⟩
  omega
 have l:Qg 0:=⟨by decide,by decide⟩;have b:∀ {s:ByteArray},s.toList.isEmpty=true->s.size<=maxLen:=fun {s} f=>by rw [QgP f];exact Nat.zero_le _
 have v:∀ {s:ByteArray},(s.size:Int)<=20->s.size<=maxLen:=fun {s} f=>by unfold maxLen;omega
 have nm:∀ {s:ByteArray},QR s=true->s.size<=maxLen:=fun {s} f=>by have:=Qdu f;unfold maxLen;omega
 unfold canP at d;split at d
 ·unfold Qc5 at d;simp only [Bool.and_eq_true,beq_iff_eq,decide_eq_true_eq] at d;obtain ⟨⟨⟨⟨⟨n,y⟩,g⟩,c⟩,z⟩,A⟩:=d;unfold QbY at n;have f:=QgE (m:=Jt x.tag x.key x.text) (by simpa using n);have t:x.tag.size<=8:=f.1;have u:x.text.size<=20:=f.2;exact ⟨⟨by unfold maxLen;omega,b A,by unfold maxLen;omega⟩,⟨⟨by omega,by omega⟩,by rw [c];exact l,by rw [z];exact l⟩⟩
 simp only [Bool.and_eq_true,decide_eq_true_eq] at d;obtain ⟨⟨⟨n,y⟩,g⟩,c⟩:=d;split at c
 ·unfold insB at c;simp only [Bool.and_eq_true,decide_eq_true_eq,Bool.or_eq_true] at c;obtain ⟨⟨⟨⟨⟨⟨p,q⟩,a⟩,B⟩,H⟩,C⟩,I⟩:=c;refine ⟨⟨b g,b p,b q⟩,⟨o _ n,o _ B,?_⟩⟩;rcases C with e|e
  ·have:x.bef=0:=by simpa using e
   rw [this];exact l
  exact o _ e.1.1
 simp only [Bool.and_eq_true] at c;obtain ⟨⟨p,q⟩,a⟩:=c;have D:x.par=0:=by simpa using p
 have E:x.bef=0:=by simpa using q
 have j:x.Ints:=⟨o _ n,by rw [D];exact l,by rw [E];exact l⟩;split at a
 ·unfold Qd1 at a;simp only [Bool.and_eq_true] at a;exact ⟨⟨b g,b a.1.1,b a.1.2⟩,j⟩
 split at a
 ·unfold Qep at a;simp only [Bool.and_eq_true,decide_eq_true_eq] at a;exact ⟨⟨b g,b a.1.1,v a.1.2⟩,j⟩
 split at a
 ·unfold Qeg at a;simp only [Bool.and_eq_true,decide_eq_true_eq] at a;exact ⟨⟨b g,nm a.1.1.1,v a.1.2⟩,j⟩
 split at a
 ·unfold QeA at a;simp only [Bool.and_eq_true,decide_eq_true_eq] at a;exact ⟨⟨b g,nm a.1.1.1.1,b a.2⟩,j⟩
 cases a
theorem QqZ {R:List RN} {last:Int} (h:QE R last) (b:ZA R) {X:Nat->Qn} {n:Nat} (a:Qam R last X n) (f:last+n<=4611686018427387904):∀ i,i<n->(X i).Ok/\(X i).Ints:=λi c=>by obtain ⟨d,_,g⟩:=Qam.ok h b (k:=i) λj l=>a j (by omega);exact Qsl d (by omega) (a i c)


structure Qkx (L:Nat->Qd) (n:Nat):Prop where
 deep:∀ i,0<i->i<n->(L i).d=(L 0).d+1
 text:∀ i,i<n->(L i).x=⟨#[]⟩
 ats:∀ i,i<n->(L i).an=0
theorem Qkx.none {L:Nat->Qd} {n:Nat} (h:Qkx L n) {i:Nat} (a:i<n):Zn (L i)=[]:=by unfold Zn;rw [h.ats i a];rfl
structure QqG (W w:World) (db:Nat) (L:Nat->Qd) (n:Nat) (R:List RN) (last:Int) (ρ:Qo) (nb:Int->Nat) (mb q:Nat):Prop where
 dom:Z7 ρ nb mb q db w R last
 tree:JP R last L n
 few:n<=400
 keys:∀ i,i<n->Qg (L i).k
 bel:Xb W w
 new:∀ b,(ρ b).isSome=true->W.heap.size<=b
def St (d w:World) (a:Nat) (L:Nat->Qd) (n:Nat) (R:List RN) (last:Int):Prop:=∃ b nb c q,QqG d w a L n R last b nb c q
theorem St.below {b w w':World} {a:Nat} {L:Nat->Qd} {n:Nat} {R:List RN} {last:Int} (h:St b w a L n R last) (hb:Xb w w'):St b w' a L n R last:=by obtain ⟨c,nb,d,q,h⟩:=h;exact ⟨c,nb,d,q,h.dom.below hb,h.tree,h.few,h.keys,h.bel.trans (hb.mono h.bel.size),h.new⟩
theorem St.bel {a w:World} {b:Nat} {L:Nat->Qd} {n:Nat} {R:List RN} {last:Int} (h:St a w b L n R last):Xb a w:=by obtain ⟨c,nb,d,q,h⟩:=h;exact h.bel
theorem St.len {d w:World} {b:Nat} {L:Nat->Qd} {n:Nat} {R:List RN} {last:Int} (h:St d w b L n R last):R.length=n/\n<=400/\JP R last L n:=by obtain ⟨f,nb,g,q,h⟩:=h;obtain ⟨r,c,a,_⟩:=Qiw h.tree.ok;exact ⟨(h.tree.tells c a).2.2.2,h.few,h.tree⟩
theorem JP.root {R:List RN} {last:Int} {L:Nat->Qd} {n:Nat} (h:JP R last L n):(Qc R 1).tag=(L 0).t/\(Qc R 1).key=(L 0).k:=by
 have a:=h.tree
 have b:=h.pos
 match n,a,b with
 | n+1,⟨_,h2,h3,_⟩,_=>exact ⟨h2,h3⟩


theorem QiG {A:Nat->ByteArray × Int} {x:ByteArray × Int}:∀ j,(∀ i,i<j->A i≠x)->Zf A x j=0| 0,_=>rfl| j+1,h=>by rw [Zf,QiG j λi a=>h i (by omega),if_neg (h j (by omega))]
theorem Qnb {A a:Nat->ByteArray × Int} {b nb:Nat} (g:∀ i j,i<b->j<b->A i=A j->i=j) (h:∀ i j,i<nb->j<nb->a i=a j->i=j) {j p:Nat} (k:j<nb) (d:p<b) (e:a j=A p):Qa8 A b a j=(p:Int):=by
 have l:Zf a (a j) j=0:=QiG j λi m c=>by have:=h i j (by omega) k c;omega
 have n:Zf A (A p) p=0:=QiG p λi m c=>by have:=g i p (by omega) d c;omega
 unfold Qa8;have f:=Qjt A b p d;rw [n] at f;rw [l,e,f];rfl
end Go.Proofs.YtobgcaemnpkbmaaGreatDoor
