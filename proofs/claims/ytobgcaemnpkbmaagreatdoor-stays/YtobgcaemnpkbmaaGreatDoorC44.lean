import Derived.Test.YtobgcaemnpkbmaaGreatDoorC43
import Derived.Test.YtobgcaemnpkbmaaGreatDoorTie
import Derived.Test.YtobgcaemnpkbmaaGreatDoorCards
import Derived.LaidMore
import Derived.OpenShut
import Derived.Lib.LaidTab
import Derived.SevenTiedAt
namespace Go.Proofs.YtobgcaemnpkbmaaGreatDoor
set_option maxRecDepth 100000
set_option maxHeartbeats 8000000
open Go.RowKit List Go.ChangeShapes Go.WideShapes Go.ChangeAt Go.Deep
structure Qet (w0:World) (B db u n:Nat) (cm0:List (Int × Int)) (ev0:List Ev) (wr:World) (κ:Qu) (S:Us):Prop where
 c0:wr.cell? ⟨db,0,none⟩=some (.pointer (some ⟨u,0,none⟩))
 ui:QA κ wr u S
 ok:Zt S
 non:κ db=none
 lt:db<wr.heap.size
 num:S.T.length=n
 ecm:S.cm=cm0
 eev:S.ev=ev0
 idle:∀ t,t<n+1->QbT S t
 arg:∀ b,b<B->κ b=none
 le:B<=db
 keep:Below B w0 wr
theorem Qet.step {o:World} {p d u n:Nat} {l:List (Int × Int)} {m:List Ev} {wr:World} {A:Qu} {S:Us} (h:Qet o p d u n l m wr A S) (t:Nat) (F:t<=n) : Calls Tryz.prog 9 #[.pointer (some ⟨d,0,none⟩),.int .i64 t] wr λe w'=>e=.returned (.int .i64 (if t=0 then 7 else 8))/\∃ g S',Qet o p d u n l m w' g S':=by
 have B:=h.num;refine (Qh7 d u t wr (λx w'=>x=(if t=0 then 7 else 8)/\∃ g S',Qet o p d u n l m w' g S') h.c0 (Qa ((Qiy h.ui h.ok t ⟨by omega,by omega⟩).mono ?_))).mono ?_
 ·rintro e w' ⟨x,g,S',rfl,c,C,s⟩;have f:=QlW h.ok s (h.idle t (by omega));obtain ⟨_,_,lv,rfl⟩:=Qj6 s f;have z:=h.ok.step s;refine ⟨x,rfl,?_,g,{ S with lv:=lv },?_⟩
  ·have y:=(Qkv h.ok (λj r=>h.idle j (by omega))).1;generalize G:(t:Int)=q at s;generalize H:({ S with lv:=lv }:Us)=I at s;cases s with| took=>exact absurd rfl f| com=>exact absurd rfl f| wait=>rw [if_pos (by omega)]| done=>rw [if_neg (by omega)]| hold i k a D v=>rw [y i k D] at v;cases v| tell=>exact absurd rfl f| send1=>exact absurd rfl f| send2=>exact absurd rfl f
  exact ⟨(World.cell?_of_block (c.far.block d h.lt (by rw [h.non];simp))).trans h.c0,C,z,(c.old d h.lt).trans h.non,Nat.lt_of_lt_of_le h.lt c.far.size,B,h.ecm,h.eev,λj r=>(h.idle j r).lv lv,λb hb=>(c.old b (by have:=h.lt;have:=h.le;omega)).trans (h.arg b hb),h.le,h.keep.trans ⟨c.far.os,c.far.tape,c.far.output,c.far.size,λb hb=>c.far.block b (by have:=h.lt;have:=h.le;omega) (by rw [h.arg b hb];simp)⟩⟩
 rintro e w' ⟨x,rfl,rfl,E⟩;exact ⟨rfl,E⟩
theorem QtL {i:World} {k d u y nb hb:Nat} {A:List (List Ac)} {o:Nat} {g:Int} {wr:World} {r:Qu} {S:Us} {z:List Int} {B:List Nat} {C:List Bool} (h:JD i k d u y nb hb A o (o+1500) g wr r S z B C) (ao:Option Addr) (c:Nat) : Calls Tryz.prog 11 #[.pointer (some ⟨d,0,none⟩),.slice ao A.length c,.int .i64 g] wr λe w'=>e=.returned (.bool true)/\Below k i w':=by
 have s:=h.book.n;have G:=h.ok.n4;have v:=h.ph.end;obtain ⟨H,I,J,K,L,M,N⟩:=h.ok.num;have x:=Qkv h.ok (λt O=>v t (by omega));have D:Qhc A.length g S.cm S.ev:=⟨x.2.2.2.trans h.gv,h.ok.rise,h.ok.cms,λe E=>by rw [<- s];exact h.ok.ev e E,h.ok.evp,by omega,by omega⟩;refine (Qpo d A.length c ao g wr (by omega) S.cm S.ev D (λl=>∃ b S',Qet i k d u A.length S.cm S.ev l b S') (Qa ⟨r,S,h.rows.c0,h.ui,h.ok,h.rows.non.1,by have:=h.rows.lt;omega,s,rfl,rfl,v,h.rows.arg,h.rows.lt.1,h.rows.keep⟩) (Qa ?_) (Qa ?_) (Qa ?_) (Qa ?_) (Qa ?_)).mono ?_
 ·rintro wr l ⟨b,S',e⟩ hb;have:=e.ok.n4;exact ⟨b,S',(hb.cell (p:=⟨d,0,none⟩) e.lt).trans e.c0,e.ui.below (by omega) hb,e.ok,e.non,Nat.lt_of_lt_of_le e.lt hb.size,e.num,e.ecm,e.eev,e.idle,e.arg,e.le,e.keep.trans (hb.mono (by have:=e.lt;have:=e.le;omega))⟩
 ·rintro t wr P F ⟨b,S',e⟩;have:=e.step t F;rw [if_neg (by omega)] at this;exact this
 ·rintro wr ⟨b,S',e⟩;exact e.step 0 (Nat.zero_le _)
 ·rintro wr ⟨b,S',e⟩;have a:=e.ui.rc.row;have f:=e.ui.c7;obtain ⟨m,j,ev⟩:=Qz a;rw [ev] at a f;rw [e.ecm] at a f;exact QnI d u m j S.cm wr e.c0 f a (by omega)
 ·rintro wr ⟨b,S',e⟩;have a:=e.ui.re.row;have f:=e.ui.c6;obtain ⟨m,j,ev⟩:=Qz a;rw [ev] at a f;rw [e.eev] at a f;exact Qj0 d u m j S.ev wr e.c0 f a (by omega)
 rintro e w' ⟨rfl,l,⟨b,S',q⟩,hb⟩;exact ⟨rfl,q.keep.trans (hb.mono (by have:=q.lt;have:=q.le;omega))⟩
theorem QlR (i:Nat) (ao:Option Addr) (c:Nat) (A:List (List Ac)) (w:World) (p:i<=w.heap.size) (s:JI i w ao A) (t:Qaf A=false) (l:∀ (j:Nat) q,A[j]?=some q->Qbw q=true) (v:∀ (j:Nat) q a,A[j]?=some q->a ∈ q->Qg a.n) (o:Gl w) (f:World) (g:Below w.heap.size w f) : Calls Tryz.prog 7 #[.slice ao A.length c] f λe w'=>∃ k u d S,e=.returned (.tuple #[.pointer (some ⟨k,0,none⟩),.int .i64 0,.int .i64 0])/\Qea w i k u A w' d S:=by have x:=g.size;refine (Qnf ao A.length c f (λu w'=>∃ d S,QhU f A u w' d S) (Qa (Qt7 i ao c A f (by omega) (s.keep λb hb=>g.block b (by omega)) t l v (o.below g)))).mono ?_;rintro e w' ⟨u,w1,⟨d,S,h⟩,rfl,rfl⟩;have y:=h.bel.size;have z:=h.ok.n4;have hb:Below w1.heap.size w1 (w1.alloc (.cells #[.pointer (some ⟨u,0,none⟩)] 65)):=(Below.refl _ _).alloc (Nat.le_refl _) _;have m:(w1.alloc (.cells #[.pointer (some ⟨u,0,none⟩)] 65)).heap[w1.heap.size]?=some (.cells #[.pointer (some ⟨u,0,none⟩)] 65 (0,0)):=heap_alloc_new w1 _;refine ⟨w1.heap.size,u,d,S,rfl,Qf m 0 _ rfl,h.ui.below (by omega) hb,h.ok,h.book,h.few,h.gv,?_,λb hb=>h.new b (by omega),⟨by omega,by simp⟩,((g.mono p).trans (h.bel.mono (by omega))).trans (hb.mono (by omega))⟩;cases e:d w1.heap.size with| none=>rfl| some r=>have:=h.ui.cs.low w1.heap.size (by rw [e];rfl);omega
theorem Qmz (o:Nat) (ao:Option Addr) (c:Nat) (A:List (List Ac)) (w:World) (J:o<=w.heap.size) (D:JI o w ao A) (z:¬ (Qaf A=false/\∀ (j:Nat) q,A[j]?=some q->Qbw q=true)) : ∃ u k:Int,(u==0)=false/\∀ d,Below w.heap.size w d->Calls Tryz.prog 7 #[.slice ao A.length c] d λe w'=>e=.returned (.tuple #[.pointer none,.int .i64 u,.int .i64 k])/\Below d.heap.size d w':=by
 have v:∀ d,Below w.heap.size w d->JI o d ao A:=λd g=>D.keep λb hb=>g.block b (by omega);by_cases f:Qaf A=true
 ·exact ⟨1,0,rfl,λd g=>Qmm ao A.length c d 1 0 rfl (Qa (Qs5 o ao c A d (v d g) f))⟩
 have f:Qaf A=false:=by simpa using f
 have r:=f;unfold Qaf at f;rw [Bool.or_eq_false_iff] at f;have E:A.length<=4:=by have:=of_decide_eq_false f.1;omega
 have B:∀ (j:Nat) (q:List Ac),A[j]?=some q->q.length<=12:=λj q h=>by have:=List.any_eq_false.1 f.2 q (mem_of_getElem? h);simpa using this
 obtain ⟨k,K,x,F⟩:=Qd5 (λq=>Qbw q=false) A;have s:k<A.length:=by
  rcases Nat.lt_or_ge k A.length with q|q
  ·exact q
  exact absurd ⟨r,λj G l=>by have:=x j G (by have:=(List.getElem?_eq_some_iff.1 l).1;omega) l;simpa using this⟩ z
 obtain ⟨n,t⟩:∃ q,A[k]?=some q:=⟨_,getElem?_eq_getElem s⟩;have h:=F n t;obtain ⟨m,L,y,H⟩:=Qd5 (λa=>Ac.may a=false) n;have C:m<n.length:=by
  rcases Nat.lt_or_ge m n.length with q|q
  ·exact q
  exfalso;have:Qbw n=true:=all_eq_true.2 λa p=>by obtain ⟨i,I,rfl⟩:=getElem_of_mem p;have:=y i _ (by omega) (getElem?_eq_getElem I);simpa using this
  rw [this] at h;cases h
 exact ⟨5,(k:Int)+1,rfl,λd g=>Qmm ao A.length c d 5 _ rfl (Qa (QmU o ao A.length c A d rfl (by have:=g.size;omega) (v d g) r E B k m s (λj q l h=>by have:=x j q l h;simpa using this) n t C (λj a l p=>by have:=y j a l p;simpa using this) H))⟩
theorem Qka:Tryz.prog.cellsOf 34=6:=by kernel_rfl
theorem QsO:Tryz.prog.cellsOf 32=1:=by kernel_rfl
section
variable {H : Type} {enc : TypeId × Value → H} {W : World} {base : Nat} {spare : Nat → Bool} {held : Bool} {fuel : Nat}
theorem Qn3 {b p:Nat} {cs:List Value} {x:DataW H × List MemPlace} (E:W.cells? base ⟨b,p,none⟩ 6=some cs) (h:DataW.trod enc Tryz.prog W base spare held fuel 34 cs=some x) :
  ∃ a:Ac,W.rangeAt b p a.cells/\Qg a.n:=by
 obtain ⟨_,C,B⟩:=World.cells?_some E
 obtain ⟨xs,k,_,J,_,D,c⟩:=DataW.trod_struct Tryz.underlying34 h
 match cs,C,xs,D with
 | [v0,v1,v2,v3,v4,v5],_,[y0,y1,y2,y3,y4,y5],_ =>
  have d:=c 0 _ rfl
  have f:=c 1 _ rfl
  have g:=c 2 _ rfl
  have i:=c 3 _ rfl
  have j:=c 4 _ rfl
  have l:=c 5 _ rfl
  simp [QkK] at d f g i j l
  obtain ⟨F,o,_,_⟩:=DataW.trod_int Tryz.underlying3 d
  obtain ⟨nm,s,_,_⟩:=DataW.trod_int Tryz.underlying3 f
  obtain ⟨pa,t,_,_⟩:=DataW.trod_int Tryz.underlying3 g
  obtain ⟨G,u,_,_⟩:=DataW.trod_int Tryz.underlying3 i
  obtain ⟨n,y,_,I⟩:=DataW.trod_int Tryz.underlying3 j
  obtain ⟨m,z,_,_⟩:=DataW.trod_int Tryz.underlying3 l
  simp at o s t u y z
  subst o s t u y z
  refine ⟨⟨F,nm,pa,G,n,m⟩,λr v A=>?_,Qmc I⟩
  have K:r<6:=(List.getElem?_eq_some_iff.1 A).1
  have q:=B r (by omega)
  rw [QdW] at q
  exact q.trans A
theorem QqH {v:Value} {x:DataW H × List MemPlace} (h:DataW.trod enc Tryz.prog W base (λ_=>true) held fuel 32 [v]=some x) : ∃ (ao:Option Addr) (c:Nat) (g:List Ac),v=.slice ao g.length c/\QcP W.heap.size W ao g/\(ao=none->g.length=0/\c=0)/\(∀ a,a ∈ g->Qg a.n)/\g.length<=maxLen:=by
 rcases open_slice Tryz.underlying32 h with ⟨f,_⟩|⟨a,d,cap,m,k,D,J,f,_,K,M,A,N,z⟩
 ·simp at f;exact ⟨none,0,[],f,(λj a u=>by cases u),λ_=>⟨rfl,rfl⟩,(λa u=>by cases u),Nat.zero_le _⟩
 simp at f;simp only [if_true] at A;subst A;have B:0<d->a.spot=none:=λO=>by obtain ⟨F,l,C⟩:=z 0 (by omega);rw [Qka] at l;obtain ⟨_,t,G⟩:=World.cells?_some l;have E:=G 0 (by omega);rw [getElem?_eq_getElem (by omega)] at E;simpa [Addr.add] using World.cell?_spot E
 have I:Inhabited Ac:=⟨⟨0,0,0,0,0,0⟩⟩;obtain ⟨L,y⟩:=choose_lt (α:=Ac) (n:=d) (p:=λi q=>W.rangeAt a.block (a.off+i*6) q.cells/\Qg q.n) (λi P=>by obtain ⟨F,l,C⟩:=z i (by omega);rw [Qka,Qh3 (B (by omega))] at l;exact Qn3 l C);have t:((List.range d).map L).length=d:=by simp
 refine ⟨some a,m,(List.range d).map L,by rw [t];exact f,λj q o=>?_,(λh=>by cases h),λq o=>?_,by rw [t];omega⟩
 ·have r:j<d:=by have:=(List.getElem?_eq_some_iff.1 o).1;omega
  have e:q=L j:=by rw [getElem?_map,getElem?_range r] at o;exact (Option.some.inj o).symm
  subst e;refine ⟨a.block,a.off,?_,?_,(y j r).1⟩
  ·have:=B (by omega);obtain ⟨b,R,s⟩:=a;cases this;rfl
  exact World.block_lt_of_cell? W ⟨a.block,a.off+j*6+0,none⟩ ((y j r).1 0 _ rfl)
 obtain ⟨j,r,rfl⟩:=mem_map.1 o;exact (y j (mem_range.1 r)).2
theorem Qlc {v:Value} {x:DataW H × List MemPlace} (h:DataW.trod enc Tryz.prog W base (λ_=>true) held fuel 22 [v]=some x) : ∃ (ao:Option Addr) (c:Nat) (A:List (List Ac)),v=.slice ao A.length c/\JI W.heap.size W ao A/\(∀ (j:Nat) q a,A[j]?=some q->a ∈ q->Qg a.n)/\A.length<=maxLen/\∀ (j:Nat) q,A[j]?=some q->q.length<=maxLen:=by
 rcases open_slice Tryz.underlying22 h with ⟨u,_⟩|⟨a,f,cap,m,k,D,a1,u,_,a2,a3,M,O,R⟩
 ·simp at u;exact ⟨none,0,[],u,(λj a y=>by cases y),(λj q a y=>by cases y),Nat.zero_le _,(λj q y=>by cases y)⟩
 simp at u;simp only [if_true] at M;subst M
 have K:∀ i,i<m->∃ r,W.cell? (a.add (i*1))=some r/\∃ P,DataW.trod enc Tryz.prog W base (λ_=>true) held k 32 [r]=some P:=λi T=>by
  obtain ⟨S,l,E⟩:=R i (by omega)
  rw [QsO] at l
  obtain ⟨_,z,U⟩:=World.cells?_some l
  match S,z with
  | [r],_ =>
   have V:=U 0 (by omega)
   refine ⟨r,?_,_,E⟩
   simpa [Addr.add] using V
 have N:0<f->a.spot=none:=λa4=>by obtain ⟨r,l,_⟩:=K 0 (by omega);simpa [Addr.add] using World.cell?_spot l
 have a0:Inhabited (List Ac):=⟨[]⟩;obtain ⟨L,F⟩:=choose_lt (α:=List Ac) (n:=f) (p:=λi q=>∃ o t,W.cell? ⟨a.block,a.off+i,none⟩=some (.slice o q.length t)/\(o=none->q.length=0/\t=0)/\QcP W.heap.size W o q/\(∀ x,x ∈ q->Qg x.n)/\q.length<=maxLen) (λi T=>by obtain ⟨r,l,P,E⟩:=K i (by omega);obtain ⟨ao,c,X,rfl,B,G,I,J⟩:=QqH E;rw [Qh3 (N (by omega)),Nat.mul_one] at l;exact ⟨X,ao,c,l,G,B,I,J⟩);have z:((List.range f).map L).length=f:=by simp
 have C:∀ (j:Nat) q,((List.range f).map L)[j]?=some q->j<f/\q=L j:=λj q d=>by
  have g:j<f:=by have:=(List.getElem?_eq_some_iff.1 d).1;omega
  rw [getElem?_map,getElem?_range g] at d;exact ⟨g,(Option.some.inj d).symm⟩
 refine ⟨some a,m,(List.range f).map L,by rw [z];exact u,λj q d=>?_,λj q x d O=>?_,by rw [z];omega,λj q d=>?_⟩
 ·obtain ⟨g,rfl⟩:=C j q d;obtain ⟨o,t,B,G,I,_⟩:=F j g;refine ⟨a.block,a.off,o,t,?_,World.block_lt_of_cell? W ⟨a.block,a.off+j,none⟩ B,B,G,I⟩;have:=N (by omega);obtain ⟨b,a5,s⟩:=a;cases this;rfl
 ·obtain ⟨g,rfl⟩:=C j q d;obtain ⟨o,t,_,_,_,J,_⟩:=F j g;exact J x O
 obtain ⟨g,rfl⟩:=C j q d;obtain ⟨o,t,_,_,_,_,Y⟩:=F j g;exact Y
theorem Qlm {v:Value} {x:DataW H × List MemPlace} (h:DataW.trod enc Tryz.prog W base (λ_=>true) held fuel 23 [v]=some x) : ∃ (z:Option Addr) (n c:Nat) (I:Nat->Int),v=.slice z n c/\QeI W.heap.size W z n I/\(0<n->∃ A J,x.1=.slice A J/\A.length=n):=by
 rcases open_slice Tryz.underlying23 h with ⟨o,_⟩|⟨a,l,cap,m,k,D,P,o,_,R,S,u,K,C⟩
 ·simp at o;exact ⟨none,0,0,λ_=>0,o,(λi f=>absurd f (Nat.not_lt_zero _)),λh=>absurd h (Nat.lt_irrefl _)⟩
 simp at o;simp only [if_true] at u;subst u;have F:x.1=.slice ((List.range l).map D) ((List.range (m-l)).map λj=>D (l+j)):=by rw [K]
 have t:∀ i,i<m->∃ d:Int,W.cell? (a.add (i*1))=some (.int .i64 d)/\Qg d:=λi f=>by
  obtain ⟨G,g,q⟩:=C i (by omega)
  rw [QkK] at g
  obtain ⟨_,E,M⟩:=World.cells?_some g
  match G,E with
  | [N],_ =>
   have O:=M 0 (by omega)
   obtain ⟨d,B,_,w1⟩:=DataW.trod_int Tryz.underlying3 q
   simp at B
   subst B
   exact ⟨d,by simpa [Addr.add] using O,Qmc w1⟩
 have y:0<l->a.spot=none:=λT=>by obtain ⟨N,g,_⟩:=t 0 (by omega);simpa [Addr.add] using World.cell?_spot g
 obtain ⟨L,r⟩:=choose_lt (α:=Int) (n:=l) (p:=λi d=>W.cell? ⟨a.block,a.off+i,none⟩=some (.int .i64 d)/\Qg d) (λi f=>by obtain ⟨d,g,q⟩:=t i (by omega);rw [Qh3 (y (by omega)),Nat.mul_one] at g;exact ⟨d,g,q⟩);refine ⟨some a,l,m,L,o,λi f=>⟨a.block,a.off,?_,World.block_lt_of_cell? W ⟨a.block,a.off+i,none⟩ (r i f).1,(r i f).1,(r i f).2⟩,λ_=>⟨_,_,F,by simp⟩⟩;have:=y (by omega);obtain ⟨b,U,s⟩:=a;cases this;rfl
end
theorem QpH : Tryz.prog.globalNamed "internal/strconv.uint64pow10" = some 1 := by kernel_rfl
theorem QsV : Tryz.prog.globalNamed "batten/component.fieldNames" = some 0 := by kernel_rfl
theorem QpM : (Tryz.prog.globals[1]?).map (·.type) = some 269 := by kernel_rfl
theorem Qta : (Tryz.prog.globals[0]?).map (·.type) = some 264 := by kernel_rfl
theorem QuR : Tryz.prog.cellsOf 269 = 20 := by kernel_rfl
theorem Qnk : Tryz.prog.cellsOf 258 = 1 := by kernel_rfl
theorem QoA : Tryz.prog.cellsOf 9 = 1 := by kernel_rfl
theorem Qjd : ownKnob Tryz.prog.godebug = none := by kernel_rfl
theorem Qf1 : laidOutB Tryz.prog = true := by kernel_rfl
def QcT : List (String × DataW Unit) := [("math/bits.deBruijn32tab", Rows.laid_math_bits_deBruijn32tab), ("math/bits.deBruijn64tab", Rows.laid_math_bits_deBruijn64tab), ("internal/strconv.uint64pow10", Rows.laid_internal_strconv_uint64pow10), ("batten/component.fieldNames", Rows.laid_batten_component_fieldNames)]
theorem QjB (os : Os) (args : Array Value) : laidMetH Tryz.prog QcT ((World.doorLaid Tryz.prog 29 os).forCall (λ_ _ => 0) ⟨#[], args, []⟩).memory :=
  laidMetH_of_parts3 (fuel := 8) (laidMet_of_run' 8 (by kernel_rfl) (by kernel_rfl)) (by kernel_rfl) (by kernel_rfl)
theorem Qju {b : World} (h : laidMetH Tryz.prog QcT b) : Gl b := by
  rw [MakeChecks.laidMetH_plain _ _ _ (by kernel_rfl)] at h
  obtain ⟨ps, ⟨P, R, L, S, T, q0, m, n, o, p, ⟨U, V, M, W, X, Y, q, r, t, u, ⟨a0, a1, N, a2, a3, a4, v, x, y, z, ⟨a5, a6, d, a7, a8, a9, f, A, B, C, _, _⟩, _⟩, _⟩, _⟩, _, _⟩ := h
  clear m n o p q r t u
  obtain rfl := Option.some.inj (QpH.symm.trans v)
  obtain rfl := Option.some.inj (QpM.symm.trans x)
  obtain rfl := Option.some.inj (QsV.symm.trans f)
  obtain rfl := Option.some.inj (Qta.symm.trans A)
  have k : Tab b := by
    show Lib.TabIs _ _ _ _ _
    unfold Lib.TabIs
    rw [y, ← Lib.cells_of_tab (zs := Lib.pow10Tab) Tryz.underlying269 Tryz.underlying258 Qnk QuR z]
  have c : ∀ i, i < 3 → b.cell? ⟨0, i, none⟩ = some (.string (nmF i)) := by
    obtain ⟨xs, aa, rfl, D, K, O, E⟩ := DataW.trod_array Tryz.underlying264 C
    intro i g
    have j := E i g
    rw [QoA, Nat.mul_one, getElem?_eq_getElem (by omega)] at j
    obtain ⟨s, F, G, _⟩ := DataW.trod_string Tryz.underlying9 j
    have H : (xs.map (·.1)) = [.lit (.string [97]), .lit (.string [98]), .lit (.string [99])] := (DataW.agg.inj (Prod.mk.inj D).1).symm
    have a : (xs.map (·.1))[i]? = some (.lit (.string s.data.toList)) := by rw [getElem?_map, getElem?_eq_getElem (by omega), G]; rfl
    rw [H] at a
    have I : s = nmF i := by
      obtain ⟨⟨l⟩⟩ := s
      match i, g with
      | 0, _ => simp at a; subst a; rfl
      | 1, _ => simp at a; subst a; rfl
      | 2, _ => simp at a; subst a; rfl
    rw [World.var?_cell f B i, ← I]
    have : d.toList[i]? = some (.string s) := by
      have J : ((d.toList.drop i).take 1)[0]? = some (.string s) := by rw [F]; rfl
      simpa using J
    simpa using this
  exact ⟨k, c, by
    have := World.block_lt_of_cell? b ⟨0, 0, none⟩ (c 0 (by omega))
    exact this⟩
end Go.Proofs.YtobgcaemnpkbmaaGreatDoor
