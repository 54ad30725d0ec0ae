import Derived.Test.YtobgcaemnpkbmaaGreatY31
import Derived.Test.YtobgcaemnpkbmaaGreatY26
import Derived.Test.YtobgcaemnpkbmaaGreatY30
namespace Go.Proofs.YtobgcaemnpkbmaaGreat
set_option maxRecDepth 100000
set_option maxHeartbeats 8000000
open Go.RowKit List
variable {P:List Qh} {R R':List RN} {F c g i j m n pc wb:Nat} {G:Nat->Nat} {L L':Nat->Qd} {ao po:Option Addr} {D:PD} {t:TypeId} {W0 w w3:World}
def plN (m:Qd):Qd:={ m with ao:=none,ac:=0 }
def plL (L:Nat->Qd) (i:Nat):Qd:=plN (L i)
theorem Qld (br:Br) (T:Int->NI) (L:Nat->Qd) (id:Int) (a:List Int) (s:Nat) (ps:List (Nat × Nat)) (pr:List Int) (q:KS):∀ k,Zq br T (plL L) id a s ps pr q k=Zq br T L id a s ps pr q k| 0=>rfl| k+1=>by rw [Zq,Zq,Qld br T L id a s ps pr q k];rfl
theorem Qiz (T:Int->NI) (L:Nat->Qd):∀ f,ZE T (plL L) f=ZE T L f
 | 0=>rfl
 | f+1=>by
  have ih:=Qiz T L f;funext id x s n last;have e:Qad (ZE T (plL L) f) T (plL L) id x s n last=Qad (ZE T L f) T L id x s n last:=by rw [ih];unfold Qad;simp only [Qld];rfl
  show (Jo id x (plL L s)++JR id x (plL L s)++(Qad (ZE T (plL L) f) T (plL L) id x s n last).1,(Qad (ZE T (plL L) f) T (plL L) id x s n last).2)=_;rw [e];rfl
theorem Qt1 (a:∀ i,Qb4 (L i) (L' i)):plL L=plL L':=funext λi=>by unfold plL plN;rw [(a i).d,(a i).t,(a i).k,(a i).an,(a i).x,(a i).nm,(a i).vl]
theorem Quz (R:List RN) (last:Int) (n:Nat) (a:∀ i,Qb4 (L i) (L' i)):QcG R last L n=QcG R last L' n:=by unfold QcG;rw [<- Qiz,Qt1 a,Qiz]
theorem Qpq (R:List RN) (n:Nat) (a:∀ i,Qb4 (L i) (L' i)):ZG R L n=ZG R L' n:=by
 have e:Zk (QF L) n=Zk (QF L') n:=by unfold Zk;rw [Qmh λi _=>Qi3 λj _=>a j]
 unfold ZG;rw [e,(a 0).t,(a 0).k]
def Qe7 (L:Nat->Qd) (G:Nat->Nat) (n i:Nat):Qd:=if i<n then Qbu (L i) (G i) else L i
theorem QoM (L:Nat->Qd) (G:Nat->Nat) (n i:Nat):Qb4 (Qe7 L G n i) (L i):=by
 unfold Qe7;split
 ·exact Qit _ _
 exact ⟨rfl,rfl,rfl,rfl,rfl,rfl,rfl⟩
theorem QvA (f:Jp w ao n (ZA L G n)):Jp w ao n (Qe7 L G n):=λd=>by obtain ⟨b,g,e,a⟩:=f d;refine ⟨b,g,e,a.lt,λi c=>?_⟩;have:=a.node i c;unfold ZA at this;unfold Qe7;rw [if_pos c] at this ⊢;exact this
theorem Z7.keys {own:Zb} (b:Z7 own i w D):QgW D.R:=λn a=>(b.neat n a).2
theorem Qjj {own:Zb} (a:Z7 own i w D) (f:D.last+400<=4611686018427387904) (g:n<=maxLen) (h:n<=c) (j:Jp w ao n L') (b:∀ i,Qb4 (L' i) (L i)) (l:∀ i,i<n->Qu (L i).k) (P:List Qh) (m:P=if (ZG D.R L n).1=0 then QcG D.R D.last L n else []) : Xl 38 #[Xp D.db,.slice ao n c] w λe w'=>∃ v x d,e=.returned (.tuple #[v,Xi x,Xi d])/\x=(ZG D.R L n).1/\d=(ZG D.R L n).2/\w'.ownsRow w.heap.size 29 8 v P.length (Qa2 P)/\Xb w w':=by rw [m,<- Quz D.R D.last n b,<- Qpq D.R n b];exact QrC D.db D.q w ao n c _ (Qj a.dblk 0 _ rfl) (Qa ((QuT D.ρ D.nb D.mb w D.q D.R D.last a.dom a.ok a.fine a.keys f ao n c L' g h j λi o=>by rw [(b i).k];exact l i o).mono λ_ _ ⟨v,p,r,s⟩=>⟨v,_,_,p,rfl,rfl,r,s⟩))
theorem Z7.ni {own:Zb} (c:Z7 own i w D) (j:Int):QcH (Qc D.R j):=by
 unfold Qc;split
 ·next n f =>
  have b:=mem_of_find?_eq_some f;obtain ⟨k,m,g⟩:=c.dom.node n b;refine ⟨g.rise,(c.neat n b).1,λe=>?_⟩;show n.ats=[];cases h:n.ats with| nil=>rfl| cons a l =>have d:=(c.fine n b a (by rw [h];simp)).2;have e:n.tag.toList.isEmpty=true:=e;rw [e] at d;cases d
 exact ⟨List.Pairwise.nil,λ_=>rfl,λ_=>rfl⟩
theorem QtD (e:QA R'=QA R):Qc R'=Qc R:=by
 have key:∀ a:List RN,Qc (QA a)=Qc a:=λa=>funext λi=>by
  have b:Qf (QA a) i=Qf a i:=by unfold Qf QA;rw [filter_map,map_map];rfl
  unfold Qc;rw [b];unfold QA;rw [find?_map];have c:((λn:RN=>n.id==i) ∘ RN.bare)=λn:RN=>n.id==i:=rfl;rw [c];cases a.find? λn=>n.id==i with| none=>rfl| some n=>rfl
 rw [<- key R',e,key]
theorem Qv7 {own:Zb} (a:Z7 own i w D) (c:Nat) (d:n<=maxLen) (f:Jp w ao n L) : Xl 39 #[Xp D.p,.slice ao n c] w (Qfv w (ZG D.R L n).1 (ZG D.R L n).2 (QeX w.heap.size D.R L n)):=by have b:=QnZ _ D.p D.R' D.last D.v w a.ref a.ok' (λm g=>by have:=a.ref.node m g;rw [<- this.an];exact this.few) ao n c L d f;unfold QeX ZG at b ⊢;rw [QtD a.bare,Qej a.bare] at b;exact b
theorem Qo2 (a:(ZG R L n).1=0):(Zk (QF L) n).1=0/\(Qc R 1).tag=(L 0).t/\(Qc R 1).key=(L 0).k/\R.length+n<=800:=by
 unfold ZG at a;by_cases c:(Zk (QF L) n).1=0
 ·rw [if_pos c] at a;by_cases b:((L 0).t.toList==(Qc R 1).tag.toList&&(L 0).k==(Qc R 1).key)=true
  ·rw [if_pos b] at a;simp only [Bool.and_eq_true,beq_iff_eq] at b;by_cases d:800<R.length+n
   ·rw [if_pos d] at a;cases a
   exact ⟨c,Qea b.1.symm,b.2.symm,by omega⟩
  rw [if_neg b] at a;cases a
 rw [if_neg c] at a;exact absurd a c
structure QhT (D:PD) (L:Nat->Qd) (n:Nat) (P:List Qh):Prop where
 few:P.length<=1000000
 run:JK D.R D.last (Zg P) P.length
 last:(QC D.R D.last (Zg P) P.length).2<=D.last+400
 ok:∀ j,j<P.length->(Zg P j).Ok/\(Zg P j).Ints
 key:∀ j,j<P.length->Qu (Zg P j).key
theorem Qrj (a:j<P.length):Zg P j ∈ P:=by unfold Zg;rw [Xg a];exact Xa0 a
theorem Qrt {own:Zb} (a:Z7 own i w D) (ad:D.last+1000000<=4611686018427387904) (a0:∀ i,i<n->Qu (L i).k) (a1:(ZG D.R L n).1=0) (z:QcG D.R D.last L n=P) : QhT D L n P/\∀ (B h:Nat) (ao l:Option Addr) (c o:Nat) (w':World),Z7 own i w' D->Jp w' ao n L->JV w' l P.length (Zg P)->QeX B D.R L n h w'->Xl 40 #[Xp D.p,Xp h,.slice ao n c,.slice l P.length o] w' λe O=>e=.returned (.bool true)/\Xb w' O:=by
 obtain ⟨a2,a3,S,M⟩:=Qo2 a1;obtain ⟨_,f,U,d⟩:=QiR a2;obtain ⟨r,A,V,W⟩:=Qic a.ok;have g:=QkR (R:=D.R) (by omega) (QiD a);obtain ⟨C,E,F,a4,ae,af,G,H,I,X,a5,a6,a7,a8⟩:=Qtu a.ok a.fine a.ni g f d a3 S M A V;rw [z] at F G;obtain ⟨q,J⟩:=QqJ F;have t:=QfG (L:=L) g n 1 (Qc D.R 1) 0 n D.last (g 1).1 (g 1).2 f X0 (λi b=>by rw [Nat.zero_add];exact (QaW (Qbf (d i b))).1);have u:=Qlo (T:=Qc D.R) (L:=L) n 1 (Qc D.R 1) 0 n D.last f X0 (λi b=>by rw [Nat.zero_add];exact a0 i b);have Y:(ZE (Qc D.R) L n 1 (Qc D.R 1) 0 n D.last).1=P:=z;rw [Y] at t u;have x:P.length<=1000000:=by have:=t.1;omega
 have y:=Qq0 a.ok a.fine q (by omega);refine ⟨⟨x,q,by rw [J];show E<=_;omega,y,λj s=>u _ (Qrj s)⟩,λB h ao l c o w' q1 q2 q3 a9=>?_⟩;obtain ⟨aa,ab,ac,ag⟩:=a9;have N:Qk C 1=(H:Int):=by rw [<- X];exact Qgx a4.ids I
 refine Qsf _ D.p D.R D.R' D.last D.v w' q1.ref q1.bare a.ok a.fine P q (λj s=>(y j s).1) (by omega) C E J r H A W I N L n a5 a6 a7 U ?_ _ _ _ aa ab h ac (λj=>G j) (by rw [length_map,length_map]) (λk m=>?_) ?_ ao c q2 l P.length o rfl x q3
 ·exact λi b=>(QaW (Qbf (d i b))).1
 ·rw [length_map] at m;have K:=a8 _ (Xa0 m);refine ⟨((JE (Qc D.R) L n 1 0 n)[k]).2,?_,K.1,?_⟩
  ·rw [getElem?_map,getElem?_eq_getElem m];rfl
  rw [getElem_map];exact K.2
 rw [length_map];have:=(QfA (Qk4 (R:=D.R) (by omega) (QiD a)) n 1 0 n (by omega) (QfI f d)).2;omega
theorem Qqx {own:Zb} (d:Z7 own i w D) (m:∀ b,(own b).isSome=true->b<w.heap.size) (g:D.last+400<=4611686018427387904) (a:Qa7 w ao n L) (f:Xb w w3) (o:w3.rowIs w.heap.size 33 ((n+3)*5) (Jv (ZA L G n))) (p:Js w3 L G w.heap.size n) (P:List Qh) (h:P=if (ZG D.R L n).1=0 then QcG D.R D.last L n else []) : Xl 38 #[Xp D.db,.slice (QaV ao w.heap.size) (Qbo ao n) (Qby ao n)] w3 λe w'=>∃ v x l,e=.returned (.tuple #[v,Xi x,Xi l])/\x=(ZG D.R L n).1/\l=(ZG D.R L n).2/\w'.ownsRow w3.heap.size 29 8 v P.length (Qa2 P)/\Xb w3 w':=by
 have k:Z7 own i w3 D:=d.kept f.size λb j e=>⟨f.block b (m b (by rw [e];rfl)),rfl⟩;have r:=a.len;cases ao with
 | none =>
  have q:n=0:=by apply Classical.byContradiction;intro s;obtain ⟨_,_,e,_⟩:=a.at' (by omega);cases e
  subst q;exact Qjj k g (L':=L) (by unfold maxLen;omega) X0 (λd=>absurd d (Xc8 _)) (λ_=>⟨rfl,rfl,rfl,rfl,rfl,rfl,rfl⟩) a.key P h
 | some t =>exact Qjj k g (ao:=some (Xa w.heap.size 0)) (c:=n+3) (L':=Qe7 L G n) (by unfold maxLen;omega) (by omega) (QvA (Qii a.at' a.inn o p)) (QoM L G n) a.key P h
theorem Qvu {own:Zb} (c:Z7 own i w D) (f:QhT D L n P) (v:D.last+1000000<=4611686018427387904) (r:JV w po P.length (Zg P)) (l:∀ a,po=some a->own a.block=none) : Xl 34 #[Xp D.db,.slice po P.length pc] w λe w'=>∃ x k,e=.returned (.tuple #[Xi x,Xi k])/\x=0/\k=0/\∃ ρ' d,Qco D (Zg P) P.length w w' ρ' d:=by
 have y:=f.few;refine Qki D.db D.q w _ _ _ _ (Qj c.dblk 0 _ rfl) (Qa ((Qmt D.ρ D.nb D.mb w D.q D.R D.last c.dom c.ok c.fine po P.length pc (Zg P) (by omega) (by omega) r (λa e=>?_) f.ok).mono ?_))
 ·cases p:D.ρ a.block with| none=>rfl| some x =>have:=c.ro a.block (by rw [p];rfl);rw [l a e] at this;cases this
 rintro e w' ⟨s,u,m,⟨d,ρ',g,t⟩,o⟩;rcases o with ⟨h,rfl⟩|⟨h,j,_⟩
 ·subst h;exact ⟨0,0,rfl,rfl,rfl,ρ',d,m,t,g.2.1,λb e=>(g.2.2 b e).imp id id,g.1⟩
 rw [f.run s h] at j;cases j
theorem Ql0 X own w y d m k (T:QH X own w y d m k) (cz:m<400000000) (i:Nat) (aH:i<d.length) ao (n c:Nat) L (Y:Qa7 w ao n L) (E:n<=c) (b7:k+1000000<=4611686018427387904) (bi:Bool) : Xl 19 #[Xp y,Xp (d[i].pb),.slice ao n c,.bool bi] w λe w'=>e=.returned (.bool true)/\∃ C bk,bk.length=d.length/\QH X C w' y bk (m+2) (k+400):=by
 have ac:=T.pair i aH;have aw:∀ b,(own b).isSome=true->b<w.heap.size:=λb e=>(T.low b e).2;have bh:d[i].last<=k:=T.last _ (Xa0 aH);have aS:=Y.len;obtain ⟨P,ad⟩:∃ P,P=if (ZG d[i].R L n).1=0 then QcG d[i].R d[i].last L n else []:=⟨_,rfl⟩;have D:Hid (∀ f,Xb w f->Z7 own i f d[i]):=Qa λf h=>ac.kept h.size λb j e=>⟨h.block b (aw b (by rw [e];rfl)),rfl⟩;have ag:Hid (∀ f,Xb w f->QH X own f y d m k):=Qa λf h=>T.below (Nat.le_refl m) (Int.le_refl k) h;have aT:Hid (∀ f,Xb w f->Jp f ao n L):=Qa λf h=>Y.at'.below h;have b8:Hid (∀ w3 G,Xb w w3->w3.rowIs w.heap.size 33 ((n+3)*5) (Jv (ZA L G n))->Js w3 L G w.heap.size n->Xl 38 #[Xp (d[i].db),.slice (QaV ao w.heap.size) (Qbo ao n) (Qby ao n)] w3 λe w'=>∃ v x a2,e=.returned (.tuple #[v,Xi x,Xi a2])/\x=(ZG d[i].R L n).1/\a2=(ZG d[i].R L n).2/\w'.ownsRow w3.heap.size 29 8 v P.length (Qa2 P)/\Xb w3 w'):=Qa λw3 G q1 q2 q3=>Qqx ac aw (by omega) Y q1 q2 q3 P ad;have aI:Hid (∀ f,Xb w f->Xl 39 #[Xp (d[i].p),.slice ao n c] f (Qfv f (ZG d[i].R L n).1 (ZG d[i].R L n).2 (QeX f.heap.size d[i].R L n))):=Qa λf h=>Qv7 (D.out f h) c (by unfold maxLen;omega) (aT.out f h);have aJ:Hid (∀ f,Xb w f->Xl 38 #[Xp (d[i].db),.slice ao n c] f λe w'=>∃ v x a2,e=.returned (.tuple #[v,Xi x,Xi a2])/\x=(ZG d[i].R L n).1/\a2=(ZG d[i].R L n).2/\w'.ownsRow f.heap.size 29 8 v P.length (Qa2 P)/\Xb f w'):=Qa λf h=>Qjj (D.out f h) (by omega) (by unfold maxLen;omega) E (aT.out f h) (λ_=>⟨rfl,rfl,rfl,rfl,rfl,rfl,rfl⟩) Y.key P ad;have aK:Hid ((ZG d[i].R L n).1=0->QhT d[i] L n P/\∀ (B ae:Nat) (aL:Option Addr) (F:Nat) (f:World),Xb w f->JV f aL P.length (Zg P)->QeX B d[i].R L n ae f->Xl 40 #[Xp (d[i].p),Xp ae,.slice ao n c,.slice aL P.length F] f λe bQ=>e=.returned (.bool true)/\Xb f bQ):=Qa λK=>by rw [if_pos K] at ad;obtain ⟨q1,q2⟩:=Qrt ac (by omega) Y.key K ad.symm;exact ⟨q1,λB ae aL F f h c2 c3=>q2 B ae ao aL c F f (D.out f h) (aT.out f h) c2 c3⟩
 have aU:Hid ((ZG d[i].R L n).1≠0->P=[]):=Qa λK=>by rw [ad,if_neg K]
 have a0:Hid (∀ f,Xb w f->Xc f (d[i].pb) 0 (Xp (d[i].db))/\Xc f (d[i].pb) 1 (Xp (d[i].p))/\d[i].pb<f.heap.size):=Qa λf h=>⟨Qj (D.out f h).pblk 0 _ rfl,Qj (D.out f h).pblk 1 _ rfl,Q9 (D.out f h).pblk⟩;have aR:=Qa Y.at';have aM:=Qa Y.inn;have bN:=Qa aw;have bl:Hid (X.heap.size<=w.heap.size):=Qa T.base.size;have aV:Hid (d[i].last<=k):=Qa bh;clear ac Y ad T aw bh;generalize (ZG d[i].R L n).1=b9 at *;generalize (ZG d[i].R L n).2=c4 at *;obtain ⟨a1,ax⟩:∃ x,x=d[i].pb:=⟨_,rfl⟩;obtain ⟨bD,ay⟩:∃ x,x=d[i].db:=⟨_,rfl⟩;obtain ⟨z,az⟩:∃ x,x=d[i].p:=⟨_,rfl⟩;rw [<- ax,<- ay,<- az] at a0;rw [<- az] at aI aK;rw [<- ay] at b8 aJ;rw [<- ax];have bR:=Qa ax;have bS:=Qa ay;have bm:=Qa az;clear ax ay az;go_enter Tryz.func19,Tryz.ntmps19;go_wp2_with fail;refine (Qhs ao n c L w aS (Qb aR) (Qb aM)).mono ?_;rintro e w3 ⟨rfl,aW,G,bn,bo⟩;have aN:=Qa bn;have af:=Qa bo;have aA:=Qa aW;obtain ⟨aq,_,bT⟩:=a0.out w3 aW;clear bn bo aW;go_wp2;go_region_held3 (λw'=>w'.cell? (Xa a1 0)=some (Xp bD)) (first|go_keep|exact aB) (first|(go_at_call 11;refine (Qiy ao w.heap.size n c _ (by omega)).mono ?_;rintro e w4 ⟨rfl,rfl⟩)|(go_at_call 38;refine (Qb b8 _ G aA.out.drew (Qb aN) ⟨(Qb af).row,(Qb af).above,(Qb af).rise⟩).mono ?_;rintro e bE ⟨c5,b9,c4,rfl,rfl,rfl,ah,ai⟩;have aB:=(Xh ai a1 0 bT).trans aq));have ai:Xb w3 bE:=(Below.refl w3.heap.size w3).drew.trans ai;have ah:bE.ownsRow w3.heap.size 29 8 c5 P.length (Qa2 P):=ah;obtain ⟨pa,F,rfl⟩:=Qy ah;obtain ⟨bF,bG⟩:=Qjc (Qb aN) (Qb af) aA.out ai;have ba:=Qa bF;have bb:=Qa bG;have a3:=Qa ah;have aX:Hid (∀ b,Value.ownBlock (.slice pa P.length F)=some b->¬ Qeu L G w.heap.size n b):=Qa λb e ar=>by
  have au:=(a3.out.lt b e).1;rcases ar with ar|⟨j,c6,c7,cA⟩
  ·have:=aN.out.lt;omega
  have:=(af.out.row j c6 c7).lt;omega
 clear bF bG ah ai aB aq;by_cases K:b9=0
 ·subst K;obtain ⟨bp,bq⟩:=aK.out rfl;have a4:=Qa bp;have br:=Qa bq;clear bp bq aK aU;go_wp2_with (first|(go_at_call 12;refine (QgZ w ao n c L G _ aS (Qb aR) (Qb aM) (Qb ba) (Qb bb)).mono ?_;rintro e bc ⟨rfl,a5,aj⟩;have V:=Qa a5;have aC:=Qa (Q8 a3.out λb e=>aj.block b (a3.out.lt b e).2 (aX.out b e));obtain ⟨aq,bH,_⟩:=a0.out bc a5;clear a5 aj)|(go_at_call 39;refine (Qb aI _ V.out).mono ?_;rintro e bI ⟨c8,rfl,a6,ak⟩;have a7:=Qa (V.out.trans (a6.mono V.out.size));have aD:=Qa (QX aC.out a6);obtain ⟨ae,rfl,bs⟩:=ak.1 rfl;have bt:=Qa bs;obtain ⟨c9,ca,_⟩:=a0.out bI a7.out;clear ak bs;clear a6)|(go_at_call 40;refine (Qb br _ ae pa F _ a7.out (Qet aD.out rfl) bt.out).mono ?_;rintro e H ⟨rfl,aY⟩;have al:=Qa (a7.out.trans (aY.mono a7.out.size));have bu:=Qa (QX aD.out aY);obtain ⟨cb,cc,_⟩:=a0.out H al.out;clear aY)|(go_at_call 38;refine (Qb aJ _ al.out).mono ?_;rintro e bJ ⟨cB,cC,cD,rfl,rfl,rfl,aZ,b0⟩;obtain ⟨cE,cF,rfl⟩:=Qy aZ;have aE:=Qa (al.out.trans (b0.mono al.out.size));have b1:=Qa (QX bu.out b0);have bv:=Qa aZ;obtain ⟨u0,u1,bO⟩:=a0.out bJ aE.out;clear b0 aZ)|(go_at_call 14;refine (QfK _ _).mono ?_;rintro e w' ⟨rfl,rfl⟩));have bw:=a4.out.few;have a8:Hid (∀ b,Value.ownBlock (.slice pa P.length F)=some b->w.heap.size<=b/\own b=none):=Qa λb e=>by have au:=(a3.out.lt b e).1;have ar:=aA.out.size;refine ⟨by omega,?_⟩;cases cd:own b with| none=>rfl| some x=>have:=bN.out b (by rw [cd];rfl);omega
  clear b8 aI aJ br bt aD bu a7 al aC V a3 aq bH c9 ca cb cc aX ba bb aN af aR aM aA;go_loopw [21,22] (λce aa wr=>∃ j:Nat,j<=P.length/\aa=Xi j/\ce=.bool true/\Hid (Xb bJ wr)) (λ_ aa _=>P.length-(intOf aa).toNat);·exact ⟨0,X3,rfl,rfl,Qa X4⟩
  case round =>
   obtain ⟨j,aO,rfl,rfl,h⟩:=hrel;by_cases bx:j<P.length
   ·have b2:(j:Int)<(P.length:Int):=by omega
    have bU:(0:Int)<=(j:Int):=by omega
    obtain ⟨l,o,bd,b3⟩:=Qet (QX b1.out h.out) rfl (by omega);obtain ⟨M,N,cf,b4⟩:=Qet (QX bv.out h.out) rfl (by omega);subst bd cf;obtain ⟨q,id,pr,bf,s,t,nm,u,a9⟩:∃ q id pr bf s t nm u,Zg P j=⟨q,id,pr,bf,s,t,nm,u⟩:=⟨_,_,_,_,_,_,_,_,rfl⟩;have O:∀ r,r<8->wr.cell? (Xa l (o+(j*8+r)))=some (QY ⟨q,id,pr,bf,s,t,nm,u⟩ r):=λr av=>by rw [b3.cell _ (by omega),QcD _ _ _ av,a9]
    have S:∀ r,r<8->wr.cell? (Xa M (N+(j*8+r)))=some (QY ⟨q,id,pr,bf,s,t,nm,u⟩ r):=λr av=>by rw [b4.cell _ (by omega),QcD _ _ _ av,a9]
    have ct:=b3.lt;have cu:=b4.lt;have cg:wr.cell? (Xa l (o+j*8))=some (Xi q):=by have:=O 0 (by decide);simpa [QY,Nat.add_assoc] using this
    have ch:wr.cell? (Xa l (o+j*8+1))=some (Xi id):=by have:=O 1 (by decide);simpa [QY,Nat.add_assoc] using this
    have ci:wr.cell? (Xa l (o+j*8+2))=some (Xi pr):=by have:=O 2 (by decide);simpa [QY,Nat.add_assoc] using this
    have cj:wr.cell? (Xa l (o+j*8+3))=some (Xi bf):=by have:=O 3 (by decide);simpa [QY,Nat.add_assoc] using this
    have ck:wr.cell? (Xa l (o+j*8+4))=some (Xi s):=by have:=O 4 (by decide);simpa [QY,Nat.add_assoc] using this
    have cl:wr.cell? (Xa l (o+j*8+5))=some (.string t):=by have:=O 5 (by decide);simpa [QY,Nat.add_assoc] using this
    have cm:wr.cell? (Xa l (o+j*8+6))=some (.string nm):=by have:=O 6 (by decide);simpa [QY,Nat.add_assoc] using this
    have cn:wr.cell? (Xa l (o+j*8+7))=some (.string u):=by have:=O 7 (by decide);simpa [QY,Nat.add_assoc] using this
    have cG:wr.cell? (Xa M (N+j*8))=some (Xi q):=by have:=S 0 (by decide);simpa [QY,Nat.add_assoc] using this
    have bK:wr.cell? (Xa M (N+j*8+1))=some (Xi id):=by have:=S 1 (by decide);simpa [QY,Nat.add_assoc] using this
    have cH:wr.cell? (Xa M (N+j*8+2))=some (Xi pr):=by have:=S 2 (by decide);simpa [QY,Nat.add_assoc] using this
    have co:wr.cell? (Xa M (N+j*8+3))=some (Xi bf):=by have:=S 3 (by decide);simpa [QY,Nat.add_assoc] using this
    have cI:wr.cell? (Xa M (N+j*8+4))=some (Xi s):=by have:=S 4 (by decide);simpa [QY,Nat.add_assoc] using this
    have cJ:wr.cell? (Xa M (N+j*8+5))=some (.string t):=by have:=S 5 (by decide);simpa [QY,Nat.add_assoc] using this
    have cK:wr.cell? (Xa M (N+j*8+6))=some (.string nm):=by have:=S 6 (by decide);simpa [QY,Nat.add_assoc] using this
    have cL:wr.cell? (Xa M (N+j*8+7))=some (.string u):=by have:=S 7 (by decide);simpa [QY,Nat.add_assoc] using this
    have cv:∀ w',(Op.equalIn 10000 29 (.agg #[Xi q,Xi id,Xi pr,Xi bf,Xi s,.string t,.string nm,.string u]) (.agg #[Xi q,Xi id,Xi pr,Xi bf,Xi s,.string t,.string nm,.string u])).run Tryz.prog w'=.ok true w':=λw'=>by
     have T:=Qln ⟨q,id,pr,bf,s,t,nm,u⟩ ⟨q,id,pr,bf,s,t,nm,u⟩ w';have e:Jc ⟨q,id,pr,bf,s,t,nm,u⟩ ⟨q,id,pr,bf,s,t,nm,u⟩=true:=by simp [Jc]
     rw [e] at T;exact T
    clear O S a9 b3 b4;go_wp2;go_big_quiet (fail);go_wp2;go_roundw;·exact ⟨j+1,by omega,by go_num,rfl,Qa (Qv h.out _)⟩
    simp [intOf];omega
   have b2:¬ (j:Int)<(P.length:Int):=by omega
   have J:Hid (Xb w wr):=Qa (aE.out.trans (h.out.mono aE.out.size));have ab:=Qa (QX b1.out h.out);obtain ⟨u2,u3,bV⟩:=a0.out wr J.out;have cw:y<wr.heap.size:=((ag.out wr J.out).low y (by rw [(ag.out wr J.out).wo];rfl)).2;clear bv aE b1 u0 u1 bO;cases bi with
   | false =>have bg:Hid (Xl 41 #[.pointer (some (Xa y 1)),.slice pa P.length F] wr λe w2=>e=.returned (.tuple #[])/\∃ C,QH X C w2 y d (m+1) k):=Qa (Qmq X own wr y d m k (ag.out wr J.out) (by omega) (Qfi ab.out) (λb e=>⟨(a8.out b e).2,Xb6 bl.out (a8.out b e).1⟩) bw);go_wp2_with (first|(go_at_call 41;refine (Qb bg).mono ?_;rintro e bW ⟨rfl,C,U⟩));go_ret;exact ⟨rfl,C,d,rfl,U.below (by omega) (by omega) X4⟩
   | true =>
    have bX:Hid (Xl 34 #[Xp bD,.slice pa P.length F] wr λe w'=>∃ x a2,e=.returned (.tuple #[Xi x,Xi a2])/\x=0/\a2=0/\∃ ρ' bz,Qco d[i] (Zg P) P.length wr w' ρ' bz):=Qa (by
     rw [bS.out];exact Qvu (D.out wr J.out) a4.out (by have:=aV.out;omega) (Qet ab.out rfl) λa e=>(a8.out a.block (by
      subst e;rcases ab.out.2 with ⟨e,_⟩|⟨g,cx,cy,e,_⟩
      ·cases e
      cases e;rfl)).2)
    go_wp2_with (first|(go_at_call 34;refine (Qb bX).mono ?_;rintro e W ⟨cM,cN,rfl,rfl,rfl,ρ',bz,bL⟩;have aP:=Qa bL;clear bL));have b5:=Qa (Qm6 (D.out wr J.out) aP.out);have aF:Hid (∀ w',Qi (λb=>own b=some (i+1,2)) W w'->w'.cell? (Xa a1 1)=some (Xp z)/\w'.ownsRow w3.heap.size 29 8 (.slice pa P.length F) P.length (Qa2 P)):=Qa λw' A=>by
     have ap:=D.out wr J.out;have cO:=aP.out.touch.size;have b7:∀ b,b<wr.heap.size->own b≠some (i+1,1)->own b≠some (i+1,2)->w'.heap[b]?=wr.heap[b]?:=λb h au ar=>(A.block b (by omega) ar).trans (aP.out.touch.block b h λe=>au (ap.ro b e));have bA:own a1=some (i+1,0):=by rw [bR.out];exact ap.po
     refine ⟨(Xk a1 1 (b7 a1 bV (by rw [bA];simp) (by rw [bA];simp))).trans u3,Q8 ab.out λb e=>b7 b (ab.out.lt b e).2 (by rw [(a8.out b e).2];simp) (by rw [(a8.out b e).2];simp)⟩
    have bB:Hid (∀ H j,j<P.length->Ji (λb=>own b=some (i+1,2)) W z d[i].R d[i].last (Zg P) j H->Xl 37 #[Xp z,(Zg P j).val] H λe w'=>e=.returned (.bool true)/\Ji (λb=>own b=some (i+1,2)) W z d[i].R d[i].last (Zg P) (j+1) w'):=Qa λH j aO I=>by have ap:=D.out wr J.out;have au:JK d[i].R d[i].last (Zg P) j:=λi aH=>a4.out.run i (by omega);obtain ⟨bK,_,co⟩:=au.ok ap.ok ap.fine;have:=Qkz I bK (by have:=aV.out;omega) (a4.out.ok j aO).1;rw [a4.out.run j aO] at this;exact this.mono λe w' ⟨q1,q2⟩=>⟨q1,q2.1 rfl⟩
    have bj:Hid (∀ wF,Ji (λb=>own b=some (i+1,2)) W z d[i].R d[i].last (Zg P) P.length wF->∃ C aQ,QH X C wF y (d.set i aQ) (m+1) (k+400)/\∀ b,b<wr.heap.size->own b=none->C b=none):=Qa λwF I=>by rw [bm.out] at I;exact (ag.out wr J.out).applied (by omega) aH aP.out I (by have:=a4.out.last;have:=aV.out;omega) a4.out.key
    rw [<- bm.out] at b5;go_loopw [23] (λaa wr=>∃ j:Nat,j<=P.length/\aa=Xi j/\Hid (Ji (λb=>own b=some (i+1,2)) W z d[i].R d[i].last (Zg P) j wr)) (λaa _=>P.length-(intOf aa).toNat);·exact ⟨0,X3,rfl,b5⟩
    case round =>
     obtain ⟨j,aO,rfl,I⟩:=hrel;clear b5;by_cases bx:j<P.length
     ·have b2:(j:Int)<(P.length:Int):=by omega
      have bU:(0:Int)<=(j:Int):=by omega
      obtain ⟨l,o,bd,_⟩:=Qet (aF.out _ (by obtain ⟨_,_,_,_,A⟩:=I.out;exact A)).2 rfl (by omega);subst bd;obtain ⟨q,id,pr,bf,s,t,nm,u,a9⟩:∃ q id pr bf s t nm u,Zg P j=⟨q,id,pr,bf,s,t,nm,u⟩:=⟨_,_,_,_,_,_,_,_,rfl⟩;have bM:Hid (∀ w',Qi (λb=>own b=some (i+1,2)) W w'->w'.cell? (Xa a1 1)=some (Xp z)/\w'.cell? (Xa l (o+j*8))=some (Xi q)/\w'.cell? (Xa l (o+j*8+1))=some (Xi id)/\w'.cell? (Xa l (o+j*8+2))=some (Xi pr)/\w'.cell? (Xa l (o+j*8+3))=some (Xi bf)/\w'.cell? (Xa l (o+j*8+4))=some (Xi s)/\w'.cell? (Xa l (o+j*8+5))=some (.string t)/\w'.cell? (Xa l (o+j*8+6))=some (.string nm)/\w'.cell? (Xa l (o+j*8+7))=some (.string u)):=Qa λw' A=>by
       obtain ⟨q1,q2⟩:=aF.out w' A;obtain ⟨cP,cQ,e,ac⟩:=Qet q2 rfl (by omega);cases e;have E:∀ r,r<8->w'.cell? (Xa l (o+(j*8+r)))=some (QY ⟨q,id,pr,bf,s,t,nm,u⟩ r):=λr av=>by rw [ac.cell _ (by omega),QcD _ _ _ av,a9]
       exact ⟨q1,E 0 (by decide),E 1 (by decide),E 2 (by decide),E 3 (by decide),E 4 (by decide),E 5 (by decide),E 6 (by decide),E 7 (by decide)⟩
      have cp:Hid (∀ H,Ji (λb=>own b=some (i+1,2)) W z d[i].R d[i].last (Zg P) j H->Xl 37 #[Xp z,(.agg #[Xi q,Xi id,Xi pr,Xi bf,Xi s,.string t,.string nm,.string u])] H λe w'=>e=.returned (.bool true)/\Ji (λb=>own b=some (i+1,2)) W z d[i].R d[i].last (Zg P) (j+1) w'):=Qa λH cq=>by have:=bB.out H j bx cq;rw [a9] at this;exact this
      obtain ⟨cR,cg,ch,ci,cj,ck,cl,cm,cn⟩:=bM.out _ (by obtain ⟨_,_,_,_,A⟩:=I.out;exact A);clear bB aF a9 bj;go_wp2_with fail
      go_region_held3 (λw'=>w'.cell? (Xa a1 1)=some (Xp z)/\w'.cell? (Xa l (o+j*8))=some (Xi q)/\w'.cell? (Xa l (o+j*8+1))=some (Xi id)/\w'.cell? (Xa l (o+j*8+2))=some (Xi pr)/\w'.cell? (Xa l (o+j*8+3))=some (Xi bf)/\w'.cell? (Xa l (o+j*8+4))=some (Xi s)/\w'.cell? (Xa l (o+j*8+5))=some (.string t)/\w'.cell? (Xa l (o+j*8+6))=some (.string nm)/\w'.cell? (Xa l (o+j*8+7))=some (.string u))
       (first
        | go_keep
        | exact aB)
       (first|(go_at_call 37;refine (Qb cp _ (Ji.grow I.out (X4.drew))).mono ?_;rintro e bY ⟨rfl,b6⟩;have aB:=bM.out bY (by obtain ⟨_,_,_,_,A⟩:=b6;exact A)))
      have bZ:=Qa b6;clear b6;go_wp2;go_roundw;·exact ⟨j+1,by omega,by go_num,bZ⟩
      simp [intOf];omega
     have c0:j=P.length:=by omega
     subst c0;have b2:¬ (P.length:Int)<(P.length:Int):=by omega
     obtain ⟨C,aQ,U,aG⟩:=bj.out _ I.out;obtain ⟨_,bC⟩:=aF.out _ (by obtain ⟨_,_,_,_,A⟩:=I.out;exact A);have bg:=Qa (Qmq X C _ y (d.set i aQ) (m+1) (k+400) U (by omega) (Qfi bC) (λb e=>⟨aG b (ab.out.lt b e).2 (a8.out b e).2,Xb6 bl.out (a8.out b e).1⟩) bw);have cs:=(U.low y (by rw [U.wo];rfl)).2;clear U aG bC;go_wp2_with (first|(go_at_call 41;refine (Qb bg).mono ?_;rintro e bW ⟨rfl,bP,U⟩));go_ret;exact ⟨rfl,bP,d.set i aQ,length_set,U⟩
 have aG:(b9==0)=false:=by simpa using K
 have c1:=aU.out K;subst c1;clear aK aJ aU K;go_wp2_with (first|(go_at_call 12;refine (QgZ w ao n c L G _ aS (Qb aR) (Qb aM) (Qb ba) (Qb bb)).mono ?_;rintro e bc ⟨rfl,a5,aj⟩;have V:=Qa a5;have aC:=Qa (Q8 a3.out λb e=>aj.block b (a3.out.lt b e).2 (aX.out b e));obtain ⟨aq,bH,_⟩:=a0.out bc a5;clear a5 aj)|(go_at_call 39;refine (Qb aI _ V.out).mono ?_;rintro e bI ⟨c8,rfl,a6,ak⟩;have a7:=Qa (V.out.trans (a6.mono V.out.size));have aD:=Qa (QX aC.out a6);have cr:=ak.2 aG;subst cr;clear ak;clear a6)|(go_at_call 14;refine (QfK _ _).mono ?_;rintro e w' ⟨rfl,rfl⟩));go_ret;exact ⟨rfl,own,d,rfl,(ag.out _ a7.out).below (by omega) (by omega) X4⟩
theorem QwR r own w c a m k (f:QH r own w c a m k) (N:m<400000000) (Y:k<=2305843009213693952) (b:Int) (y:-9223372036854775808<=b) (z:b<=9223372036854775807) l (i o:Nat) L (pa:Option Addr) (B C:Nat) (x:Qa7 r l i L) (D:i<=o) (s:0<a.length) : Xl 7 #[Xp c,.agg #[Xi 6,Xi b,.slice l i o,.slice pa B C]] w λe w'=>e=.returned (.bool true)/\∃ g d,0<d.length/\QH r g w' c d (m+2) (k+1048576):=by
 obtain ⟨vp,E,O,t,P⟩:=f.top;obtain ⟨p,R,rfl⟩:=Qd7 t s;have G:c<w.heap.size:=(f.low c (by rw [f.wo];rfl)).2;have H:p<w.heap.size:=(t.lt p rfl).2;have V:=f.few;have q:=QdP b s;have F:w.cell? (Xa p (Zf b a.length))=some (Xp ((a[Zf b a.length]'q).pb)):=by rw [t.cellAt _ (by omega),getElem?_map,getElem?_eq_getElem q];rfl
 have W:((a.length:Int)==0)=false:=by rw [beq_eq_false_iff_ne];omega
 have I:Hid (∀ w1,Xl 16 #[Xi b,Xi a.length] w1 λe w'=>e=.returned (Xi (Zf b a.length:Nat))/\w'=w1):=Qa λw1=>QdT b a.length w1 s (by omega) y z;have S:Hid (∀ w1,Xb w w1->Xl 19 #[Xp c,Xp ((a[Zf b a.length]'q).pb),.slice l i o,.bool true] w1 λe w'=>e=.returned (.bool true)/\∃ g d,0<d.length/\QH r g w' c d (m+2) (k+1048576)):=Qa λw1 h=>by have T:=f.below (Nat.le_refl m) (Int.le_refl k) h;refine (Ql0 r own w1 c a m k T N _ q l i o L (x.below (f.base.trans (h.mono f.base.size))) D (by omega) true).mono ?_;rintro e w' ⟨rfl,g,d,J,u⟩;exact ⟨rfl,g,d,by rw [J];exact s,u.below X0 (by omega) X4⟩
 clear f O t P x D y z;generalize (a[Zf b a.length]'q).pb=U at *;generalize Zf b a.length=v at *;generalize a.length=n at *;have X:(v:Int)<(n:Int):=by omega
 go_enter Tryz.func7,Tryz.ntmps7;go_wp2_with fail;generalize j:w.alloc (.cells #[Xi 6,Xi b,.slice l i o,.slice pa B C] 27)=w1;have h:=Xt j;have a0:w.heap.size<w1.heap.size:=by rw [<- j];simp
 have a1:=Xz j 0 (Xi 6) rfl;have a2:=Xz j 1 (Xi b) rfl;have a3:=Xz j 2 (.slice l i o) rfl;have u1:=(Xh h c 0 G).trans E;have a4:=(Xh h p v H).trans F;have K:=Qa h;clear j h E F;go_region_held3 (λw'=>w'.cell? (Xa c 0)=some (Xe p n R)/\w'.cell? (Xa w.heap.size 1)=some (Xi b)/\w'.cell? (Xa p v)=some (Xp U)) (first|go_keep) (first|(go_at_call 16;refine (Qb I _).mono ?_;rintro e w' ⟨rfl,A⟩;rw [A];clear A));go_wp2_with (first|(go_at_call 19;refine (Qb S _ K.out.drew).mono ?_;rintro e a5 ⟨rfl,g,d,M,u⟩));go_ret;exact ⟨rfl,g,d,M,u⟩
theorem Qvg r own w c a m k (f:QH r own w c a m k) (N:m<400000000) (Y:k<=2305843009213693952) (b:Int) (y:-9223372036854775808<=b) (z:b<=9223372036854775807) l (i o:Nat) L (pa:Option Addr) (B C:Nat) (x:Qa7 r l i L) (D:i<=o) (s:0<a.length) : Xl 7 #[Xp c,.agg #[Xi 7,Xi b,.slice l i o,.slice pa B C]] w λe w'=>e=.returned (.bool true)/\∃ g d,0<d.length/\QH r g w' c d (m+2) (k+1048576):=by
 obtain ⟨vp,E,O,t,P⟩:=f.top;obtain ⟨p,R,rfl⟩:=Qd7 t s;have G:c<w.heap.size:=(f.low c (by rw [f.wo];rfl)).2;have H:p<w.heap.size:=(t.lt p rfl).2;have V:=f.few;have q:=QdP b s;have F:w.cell? (Xa p (Zf b a.length))=some (Xp ((a[Zf b a.length]'q).pb)):=by rw [t.cellAt _ (by omega),getElem?_map,getElem?_eq_getElem q];rfl
 have W:((a.length:Int)==0)=false:=by rw [beq_eq_false_iff_ne];omega
 have I:Hid (∀ w1,Xl 16 #[Xi b,Xi a.length] w1 λe w'=>e=.returned (Xi (Zf b a.length:Nat))/\w'=w1):=Qa λw1=>QdT b a.length w1 s (by omega) y z;have S:Hid (∀ w1,Xb w w1->Xl 19 #[Xp c,Xp ((a[Zf b a.length]'q).pb),.slice l i o,.bool false] w1 λe w'=>e=.returned (.bool true)/\∃ g d,0<d.length/\QH r g w' c d (m+2) (k+1048576)):=Qa λw1 h=>by have T:=f.below (Nat.le_refl m) (Int.le_refl k) h;refine (Ql0 r own w1 c a m k T N _ q l i o L (x.below (f.base.trans (h.mono f.base.size))) D (by omega) false).mono ?_;rintro e w' ⟨rfl,g,d,J,u⟩;exact ⟨rfl,g,d,by rw [J];exact s,u.below X0 (by omega) X4⟩
 clear f O t P x D y z;generalize (a[Zf b a.length]'q).pb=U at *;generalize Zf b a.length=v at *;generalize a.length=n at *;have X:(v:Int)<(n:Int):=by omega
 go_enter Tryz.func7,Tryz.ntmps7;go_wp2_with fail;generalize j:w.alloc (.cells #[Xi 7,Xi b,.slice l i o,.slice pa B C] 27)=w1;have h:=Xt j;have a0:w.heap.size<w1.heap.size:=by rw [<- j];simp
 have a1:=Xz j 0 (Xi 7) rfl;have a2:=Xz j 1 (Xi b) rfl;have a3:=Xz j 2 (.slice l i o) rfl;have u1:=(Xh h c 0 G).trans E;have a4:=(Xh h p v H).trans F;have K:=Qa h;clear j h E F;go_region_held3 (λw'=>w'.cell? (Xa c 0)=some (Xe p n R)/\w'.cell? (Xa w.heap.size 1)=some (Xi b)/\w'.cell? (Xa p v)=some (Xp U)) (first|go_keep) (first|(go_at_call 16;refine (Qb I _).mono ?_;rintro e w' ⟨rfl,A⟩;rw [A];clear A));go_wp2_with (first|(go_at_call 19;refine (Qb S _ K.out.drew).mono ?_;rintro e a5 ⟨rfl,g,d,M,u⟩));go_ret;exact ⟨rfl,g,d,M,u⟩
theorem up2 {k:Int} {a:Array Value} (h:Xl F a w λe w'=>e=.returned (.bool true)/\∃ c b,0<b.length/\QH W0 c w' wb b (m+1) k):Xl F a w λe w'=>e=.returned (.bool true)/\∃ c b,0<b.length/\QH W0 c w' wb b (m+2) k := h.mono λ_ _ ⟨d,c,b,f,g⟩=>⟨d,c,b,f,g.below (by omega) (by omega) X4⟩
theorem Qps c own w b f m k (l:QH c own w b f m k) (t:m<400000000) (C:400<=k) (r:k<=2305843009213693952) (n:0<f.length) (q:SOp) (a:q.Ok c) (u:q.kind<=7) : Xl 7 #[Xp b,q.val] w λe w'=>e=.returned (.bool true)/\∃ B s,0<s.length/\QH c B w' b s (m+2) (k+1048576):=by
 obtain ⟨d,g,h,i,j,L,pa,o,p,F⟩:=q;have u:d<=7:=u;show Xl 7 #[Xp b,.agg #[Xi d,Xi g,.slice h i j,.slice pa o p]] w _;by_cases v:d=1
 ·subst v;exact up2 (Qor c own w b f m k l (by omega) C g h i j L _ (a.lst.below l.base) n)
 by_cases x:d=2
 ·subst x;exact up2 (QwA c own w b f m k l (by omega) g a.lo a.hi h i j pa o p n)
 by_cases y:d=3
 ·subst y;exact up2 (QnU c own w b f m k l (by omega) g a.lo a.hi h i j pa o p n)
 by_cases z:d=4
 ·subst z;exact up2 (Qpg c own w b f m k l (by omega) g a.lo a.hi h i j pa o p n)
 by_cases A:d=5
 ·subst A;exact up2 (QsU c own w b f m k l (by omega) r g a.lo a.hi h i j pa o p F a.pat a.len a.few a.px n)
 by_cases D:d=6
 ·subst D;exact QwR c own w b f m k l t r g a.lo a.hi h i j L pa o p a.lst a.cap n
 by_cases E:d=7
 ·subst E;exact Qvg c own w b f m k l t r g a.lo a.hi h i j L pa o p a.lst a.cap n
 exact up2 (Qwp c own w b f m k l (by omega) d (by simpa using v) (by simpa using x) (by simpa using y) (by simpa using z) (by simpa using A) (by rw [beq_eq_false_iff_ne];omega) (by rw [beq_eq_false_iff_ne];omega) g a.lo a.hi h i j pa o p n)
theorem QnK B (n c:Nat) (o:Nat->SOp) w (a0:Qd6 w B n o) (aj:n<=1048576) : Xl 5 #[.slice B n c,Xi 7] w λe w'=>e=.returned (.bool true)/\Xb w w':=by
 have T:=Qa a0;clear a0;go_enter Tryz.func5,Tryz.ntmps5;have U:Hid (Xl 6 #[Xp w.heap.size,Xe (w.heap.size+1) 3 3] ((w.alloc (.cells #[Xv,Xv,Xv,Xv,Xv,Xv,Xv] 45)).alloc (.cells #[Xi 0,.string ⟨#[100,105,118]⟩,Xi 0,Xv,Xo,Xi 1,.string ⟨#[112]⟩,Xi 1,Xv,Xo,Xi 1,.string ⟨#[112]⟩,Xi 2,Xv,Xo] 33)) λe w'=>e=.returned (.bool true)/\∃ own D,QH w own w' w.heap.size [D] 1 400):=by have V:=QvE (w.alloc (.cells Qfl 45)) 33;rw [World.size_alloc] at V;exact Qa (QmU w _ _ w.heap.size [] 0 400 (QvX w _) (by omega) (by omega) _ 3 3 Jq V Qn3)
 have a1:Hid (∀ own wr a j,j<n->0<a.length->QH w own wr w.heap.size a (2*j+1) (400+j*1048576)->(o j).kind<=7->Xl 7 #[Xp w.heap.size,(o j).val] wr λe w'=>e=.returned (.bool true)/\∃ y t,0<t.length/\QH w y w' w.heap.size t (2*j+3) (400+(j+1:Nat)*1048576)):=Qa λown wr a j q h d C=>by refine (Qps w own wr w.heap.size a (2*j+1) _ d (by omega) (by omega) (by omega) h (o j) (T.out.ok j q) C).mono ?_;rintro e w' ⟨rfl,y,t,a2,a3⟩;refine ⟨rfl,y,t,a2,a3.below (by omega) (by omega) X4⟩
 have K:Hid (∀ own wr a j k,j<=2*n+4->QH w own wr w.heap.size a j k->Xl 8 #[.pointer (some (Xa w.heap.size 1))] wr λe w'=>e=.returned (.bool true)/\QH w own w' w.heap.size a j k):=Qa λown wr a j k q d=>by refine (Qox w own wr w.heap.size a j k d (by omega)).mono ?_;rintro e w' ⟨rfl,E⟩;exact ⟨rfl,d.below X0 (Int.le_refl _) E⟩
 have a4:Hid (∀ own wr a m k j,QH w own wr w.heap.size a m k->j<n->∃ b f,B=some (Xa b f)/\∀ r,r<4->wr.cell? (Xa b (f+j*4+r))=(o j).cells[r]?):=Qa λown wr a m k j d q=>by obtain ⟨b,f,e,E,g⟩:=T.out.at' (by omega);exact ⟨b,f,e,λr l=>(Xh d.base b _ E).trans (g j r q l)⟩
 go_wp2_with fail;refine (Qb U).mono ?_;rintro e w1 ⟨rfl,H,W,z⟩;obtain ⟨vp,F,a8,X,a9⟩:=z.top;obtain ⟨aa,ab,rfl⟩:=Qy X;have I:QH w H w1 w.heap.size [W] (0+1) (400+(0:Nat)*1048576):=z;have M:=Qa I;clear z I a8 X a9 U;have F:Xc w1 w.heap.size 0 (.slice aa 1 ab):=F;go_wp2;go_loopw [6,7,8] (λac i _ wr=>∃ j:Nat,j<=n/\i=Xi j/\ac=.bool true/\Hid (∃ own a,0<a.length/\QH w own wr w.heap.size a (2*j+1) (400+j*1048576))) (λ_ i _ _=>n-(intOf i).toNat);·exact ⟨0,X3,rfl,rfl,Qa ⟨H,[W],by simp,M.out⟩⟩
 case round =>
  obtain ⟨j,q,rfl,rfl,l⟩:=hrel;clear M F;by_cases N:j<n
  ·obtain ⟨own,a,h,d⟩:=l.out;obtain ⟨b,f,rfl,g⟩:=a4.out own wr a _ _ j d N;have a5:(j:Int)<(n:Int):=by omega
   have v:=Qa d;have O:=Qa h;clear d h l;have u:=a1.out own wr a j N O.out v.out;generalize ad:o j=x at u g;obtain ⟨Y,a6,ae,af,ag,L,pa,ah,ai,aq⟩:=x;have ak:Xc wr b (f+j*4) (Xi Y):=g 0 (by omega);have al:Xc wr b (f+j*4+1) (Xi a6):=g 1 (by omega);have ao:Xc wr b (f+j*4+2) (.slice ae af ag):=g 2 (by omega);have ap:Xc wr b (f+j*4+3) (.slice pa ah ai):=g 3 (by omega);clear g ad;by_cases C:Y<=7
   ·have G:=Qa (u C);clear u;simp only [SOp.val,SOp.cells] at G;go_wp2_with fail;refine (Qb G).mono ?_;rintro e w2 ⟨rfl,J,P,R,S⟩;have s:=Qa (K.out J w2 P (2*j+3) _ (by omega) S);have a7:=Qa R;clear S R G;go_wp2_with fail;refine (Qb s).mono ?_;rintro e w3 ⟨rfl,p⟩;have A:=Qa p;clear p s;go_wp2;go_roundw;·exact ⟨j+1,by omega,by go_num,rfl,Qa ⟨J,P,a7.out,A.out⟩⟩
    simp [intOf];omega
   clear u;have s:=Qa (K.out own wr a (2*j+1) _ (by omega) v.out);go_wp2_with fail;refine (Qb s).mono ?_;rintro e w3 ⟨rfl,p⟩;have A:=Qa p;clear p s;go_wp2;go_roundw;·exact ⟨j+1,by omega,by go_num,rfl,Qa ⟨own,a,O.out,A.out.below (by omega) (by omega) X4⟩⟩
   simp [intOf];omega
  have a5:¬ (j:Int)<(n:Int):=by omega
  obtain ⟨own,a,h,d⟩:=l.out;have v:=Qa d;clear d h l;go_wp2;go_ret;exact ⟨rfl,v.out.base⟩
def Qfk (i:Nat):Qd:=if i=0 then ⟨0,⟨#[100,105,118]⟩,0,none,0,0,⟨#[]⟩,λ_=>⟨#[]⟩,λ_=>⟨#[]⟩⟩ else ⟨1,⟨#[112]⟩,3-i,none,0,0,⟨#[]⟩,λ_=>⟨#[]⟩,λ_=>⟨#[]⟩⟩
def Qeq:Array Value:=#[Xi 0,.string ⟨#[100,105,118]⟩,Xi 0,Xv,Xo,Xi 1,.string ⟨#[112]⟩,Xi 2,Xv,Xo,Xi 1,.string ⟨#[112]⟩,Xi 1,Xv,Xo]
theorem QwZ (a:w.heap[g]?=some (.cells Qeq t (0,0))):Qa7 w (some (Xa g 0)) 3 Qfk where
 at':=by
  intro _
  refine ⟨g,0,rfl,Q9 a,λi b=>?_⟩
  have d:∀ n:Nat,n<=8->n<=maxLen:=λn o=>by unfold maxLen;omega
  have c:∀ m:Qd,m.an=0->m.t.size<=8->m.x.size<=8->m.Ok w:=λm f h k=>⟨by rw [f];exact X3,d _ h,d _ k,λj l=>absurd l (by omega)⟩
  match i,b with
  | 0,_=>exact ⟨Qj a 0 _ rfl,Qj a 1 _ rfl,Qj a 2 _ rfl,Qj a 3 _ rfl,Qj a 4 _ rfl,c _ rfl (by decide) (by decide)⟩
  | 1,_=>exact ⟨Qj a 5 _ rfl,Qj a 6 _ rfl,Qj a 7 _ rfl,Qj a 8 _ rfl,Qj a 9 _ rfl,c _ rfl (by decide) (by decide)⟩
  | 2,_=>exact ⟨Qj a 10 _ rfl,Qj a 11 _ rfl,Qj a 12 _ rfl,Qj a 13 _ rfl,Qj a 14 _ rfl,c _ rfl (by decide) (by decide)⟩
 inn:=⟨λi _ _=>by unfold Qfk;split<;>rfl,λi _=>by unfold Qfk;split<;>(show 0*32<=_;omega)⟩
 cap:=λi _ _=>by unfold Qfk;split<;>rfl
 len:=by omega
 key:=λi b=>by
  match i,b with
  | 0,_=>show Qu 0;unfold Qu;omega
  | 1,_=>show Qu 2;unfold Qu;omega
  | 2,_=>show Qu 1;unfold Qu;omega
def Qjb (g:Nat) (j:Nat):SOp:=if j=0 then ⟨6,0,some (Xa g 0),3,3,Qfk,none,0,0,λ_=>Qd2⟩ else if j=1 then QfN 2 else QfN 3
def Qft (g:Nat):Array Value:=#[Xi 6,Xi 0,Xe g 3 3,Xv,Xi 2,Xi 0,Xv,Xv,Xi 3,Xi 0,Xv,Xv]
theorem Qsn (w:World):Qd6 ((w.alloc (.cells Qeq 33)).alloc (.cells (Qft w.heap.size) 27)) (some (Xa (w.heap.size+1) 0)) 3 (Qjb w.heap.size) where
 at':=λ_=>by
  have a:((w.alloc (.cells Qeq 33)).alloc (.cells (Qft w.heap.size) 27)).heap[w.heap.size+1]?=some (.cells (Qft w.heap.size) 27 (0,0)):=by
   show ((w.heap.push _).push _)[w.heap.size+1]?=_
   rw [Array.getElem?_push,if_pos (by simp)]
  refine ⟨w.heap.size+1,0,rfl,Q9 a,λj r c b=>?_⟩
  simp only [World.cell?,a]
  match j,c with
  | 0,_=>match r,b with|0,_=>rfl|1,_=>rfl|2,_=>rfl|3,_=>rfl
  | 1,_=>match r,b with|0,_=>rfl|1,_=>rfl|2,_=>rfl|3,_=>rfl
  | 2,_=>match r,b with|0,_=>rfl|1,_=>rfl|2,_=>rfl|3,_=>rfl
 ok:=λj c=>by
  unfold Qjb
  by_cases d:j=0
  ·rw [if_pos d]
   have a:((w.alloc (.cells Qeq 33)).alloc (.cells (Qft w.heap.size) 27)).heap[w.heap.size]?=some (.cells Qeq 33 (0,0)):=by
    rw [Below.heap_alloc _ _ _ (by simp)]
    show (w.heap.push _)[w.heap.size]?=_
    simp
   exact ⟨QwZ a,λg=>absurd g (Xc8 _),by show 0*88<=_;omega,by show 0<=_;omega,λi f=>absurd f (Xb7 _),by show _<=(0:Int);omega,by show (0:Int)<=_;omega,X0⟩
  ·rw [if_neg d]
   split
   ·exact QkF _ _
   ·exact QkF _ _
theorem QuF a (n c:Nat) (g:Nat->SOp) w (h:Qd6 w a n g) (j:n<=1048576) : Xl 4 #[.slice a n c] w λe w'=>e=.returned (.bool true)/\Xb w w':=by have k:=Qa h;clear h;have d:=Qa (QnK (some (Xa (w.heap.size+1) 0)) 3 3 (Qjb w.heap.size) _ (Qsn w) (by omega));have l:Hid (∀ w1,Xb w w1->Xl 5 #[.slice a n c,Xi 7] w1 λe w'=>e=.returned (.bool true)/\Xb w1 w'):=Qa λw1 m=>QnK a n c g w1 (k.out.below m) j;unfold Qeq Qft at d;go_enter Tryz.func4,Tryz.ntmps4;go_wp2_with fail;refine (Qb d).mono ?_;rintro e w1 ⟨rfl,f⟩;have b:Xb w w1:=(((Below.refl w.heap.size w).alloc X0 _).alloc (by simp) _).trans (f.mono (by simp;omega));clear f d;go_wp2_with fail;refine (Qb l w1 b).mono ?_;rintro e w2 ⟨rfl,i⟩;go_wp2;go_ret;exact ⟨rfl,b.trans (i.mono b.size)⟩
end Go.Proofs.YtobgcaemnpkbmaaGreat
