import Derived.Test.YtobgcaemnpkbmaaGreatY07
namespace Go.Proofs.YtobgcaemnpkbmaaGreat
set_option maxRecDepth 100000
set_option maxHeartbeats 8000000
open Go.RowKit List
variable {nm:ByteArray} {l:List (ByteArray × ByteArray)}
attribute [local go_sem ↓] Go.wp_at_zero Go.wp_at_succ
theorem QmB {vl:ByteArray} (h:∀ x,x ∈ l->x.1.size<=maxLen/\x.2.size<=maxLen) (f:nm.size<=maxLen) (g:vl.size<=maxLen):∀ k,k<=l.length->∀ x,x ∈ (Zy l nm vl k).1->x.1.size<=maxLen/\x.2.size<=maxLen:=by
 intro k;induction k with
 | zero=>intro _ x a;simp [Zy] at a
 | succ k ih =>
  intro i x a;have ih:=ih (by omega);have d:∀ c,c ∈ (if (Zy l nm vl k).2=false/\Op.bytesLess (Qa1 l k).1.toList nm.toList=false then (Zy l nm vl k).1++[(nm,vl)] else (Zy l nm vl k).1)->c.1.size<=maxLen/\c.2.size<=maxLen:=by
   intro c b;split at b
   ·rcases Xa4.1 b with b|b
    ·exact ih c b
    have:=Xa2.1 b;subst this;exact ⟨f,g⟩
   exact ih c b
  rw [Zy] at a;simp only [] at a;split at a
  ·exact d x a
  rcases Xa4.1 a with a|a
  ·exact d x a
  have:=Xa2.1 a;subst this;rw [Qcg (by omega)];exact h _ (Xa0 _)
theorem Qkn {vl:ByteArray} (d:∀ x,x ∈ l->x.1.size<=maxLen/\x.2.size<=maxLen) (b:nm.size<=maxLen) (c:vl.size<=maxLen):∀ x,x ∈ QQ l nm vl->x.1.size<=maxLen/\x.2.size<=maxLen:=by
 intro x a;unfold QQ at a;split at a
 ·exact QmB d b c _ X0 x a
 rcases Xa4.1 a with a|a
 ·exact QmB d b c _ X0 x a
 have:=Xa2.1 a;subst this;exact ⟨b,c⟩
theorem QoK S p R last v (f id pa bf E:Int) (F nm c:ByteArray) w (t:Qq S w p R last v) (aK:(f==1)=false) (k:Nat) (C:k<R.length) (O:Qk R id=(k:Int)) (aL:(E !=0)=false) (aM:F.toList.isEmpty=true) (aN:(pa !=0)=false) (aO:(bf !=0)=false) (aP:(f==2)=false) (aQ:(f==3)=false) (aR:(f==6)=false) (aG:(f !=2)=true) (H:nm.size<=maxLen) (I:QK nm=true) (aH:R[k].tag.toList.isEmpty=false) (aS:(c.size:Int)<=20) (aT:(f !=4)=false) (aU:(f==5)=false) (aI:(QI R[k].ats nm).length<R[k].an) (a6:(QQ R[k].ats nm c).length<=5) : Xl 37 #[Xp p,.agg #[Xi f,Xi id,Xi pa,Xi bf,Xi E,.string F,.string nm,.string c]] w λe w'=>e=.returned (.bool true)/\Qi (pv p v) w w'/\∃ ak i j,Qay S w w' p (R.set k { R[k] with ats:=QQ R[k].ats nm c,ao:=i,an:=(QQ R[k].ats nm c).length,ac:=j }) last v ak:=by
 obtain ⟨g,a7,rfl,aV,P,aW,a8,a5,al,ap,aq,ar,T,au,aJ,av,U,aw,V,ax⟩:=ZO t C O;have fr:∀ r,Xf w g (k*6+r):=λr=>t.row.frozenAt (k*6+r);clear O;have ay:=QbB I H;clear I;have aX:=Qa t;have u:=Qa (t.node R[k] (Xa0 C));clear t a5;generalize J:R[k]=a at *;have a9:=Qa J;clear J;have b2:decide ((QI a.ats nm).length<a.an)=true:=by simp;omega
 go_enter Tryz.func37,Tryz.ntmps37;go_wp2_with (first|(go_at_call_of 49 (Xi id);refine (Qb ax _ ((Qb V).below Xd)).mono ?_;rintro e w1 ⟨rfl,rfl⟩)|(go_at_call 45;refine (Qb ay _).mono ?_;rintro e w1 ⟨rfl,rfl⟩));generalize m:(w.alloc (.cells #[Xi f,Xi id,Xi pa,Xi bf,Xi E,.string F,.string nm,.string c] 29)).alloc (.cells #[Xi a.id,Xi a.par,.string a.tag,Xi a.key,.slice a.ao a.an a.ac,.string a.text] 91)=w2;have l:=Xu m;have b3:w.heap.size+1<w2.heap.size:=by rw [<- m];simp
 have q0:=Xx m 0 (Xi f) rfl;have W:=Xx m 6 (.string nm) rfl;have X:=Xx m 7 (.string c) rfl;have Y:=Xy m 4 (.slice a.ao a.an a.ac) rfl;have a0:=(Xh l p 0 av).trans U;have a1:=(Xh l g (k*6+4) P).trans T;have a2:=(Xj l g (k*6+4) P).trans (fr 4);have aa:=Qa l;have ab:=Qa (V.out.below l);have B:=Qa (u.out.below l);have ad:=l.size;have ae:Hid (∀ w',Zn w' a.ao a.an (QP a.ats) (Q6 a.ats)->Xl 57 #[.slice a.ao a.an a.ac,.string nm] w' λe n=>∃ i j,e=.returned (.slice i (QI a.ats nm).length j)/\Jg n w'.heap.size (.slice i (QI a.ats nm).length j) (QI a.ats nm)/\Xb w' n):=by refine Qa λw' G=>(Qe2 a.ao a.an a.ac a.ats nm w' u.out.an (by have:=u.out.few;omega) G).mono ?_;rintro e n ⟨q,rfl,z,A⟩;obtain ⟨i,j,rfl⟩:=Qy z;exact ⟨i,j,rfl,z,A⟩
 have aF:=u.out.few;clear m l U aw al ap aq ar T au fr;go_wp2_with (first|(go_at_call 57;refine (Qb ae _ (Qb B).at').mono ?_;rintro e x ⟨i,j,rfl,K,d⟩;have aY:=Qa K;have D:=Qa d;have b4:=d.size;have az:=(Xh d w.heap.size 0 (by (try simp);omega)).trans q0;have b5:=(Xh d w.heap.size 6 (by (try simp);omega)).trans W;have b6:=(Xh d w.heap.size 7 (by (try simp);omega)).trans X;have b7:=(Xh d (w.heap.size+1) 4 (by (try simp);omega)).trans Y;have b8:=(Xh d p 0 (by (try simp);omega)).trans a0;have aA:=(Xh d g (k*6+4) (by (try simp);omega)).trans a1;have b9:=(Xj d g (k*6+4) (by (try simp);omega)).trans a2;clear K d q0 W X Y a0 a1 a2));have L:=Qa (ab.out.below D.out);have af:=Qa ((B.out.below D.out).at');have ag:Hid (∀ w',Zn w' a.ao a.an (QP a.ats) (Q6 a.ats)->Xl 58 #[.slice a.ao a.an a.ac,.string nm,.string c] w' λe n=>∃ o s,e=.returned (.slice o (QQ a.ats nm c).length s)/\Jg n w'.heap.size (.slice o (QQ a.ats nm c).length s) (QQ a.ats nm c)/\Xb w' n):=by refine Qa λw' G=>(QmY a.ao a.an a.ac a.ats nm c w' u.out.an (by have:=u.out.few;omega) G).mono ?_;rintro e n ⟨q,rfl,z,A⟩;obtain ⟨i,j,rfl⟩:=Qy z;exact ⟨i,j,rfl,z,A⟩
 have ba:(0:Int)<=(k:Int):=by omega
 have bb:(k:Int)<(R.length:Int):=by omega
 have bc:w.heap.size+1<x.heap.size:=by omega
 have aB:p<x.heap.size:=by omega
 have aC:g<x.heap.size:=by omega
 have aZ:p≠g:=λe=>a8 e.symm;have M:w.heap.size≠g:=by omega
 have ah:w.heap.size+1≠g:=by omega
 have b0:g≠w.heap.size:=by omega
 have b1:g≠w.heap.size+1:=by omega
 clear az
 go_region_held3 (λw'=>w'.frozen? (Xa g (k*6+4))=false/\w'.cell? (Xa p 0)=some (Xe g R.length a7)/\w'.cell? (Xa w.heap.size 6)=some (.string nm)/\w'.cell? (Xa w.heap.size 7)=some (.string c)/\w'.cell? (Xa (w.heap.size+1) 4)=some (.slice a.ao a.an a.ac))
   (first
     | go_keep
     | (go_split_ands
        refine ⟨?_,?_,?_,?_,?_⟩
        · (rw [h.frozen (by simp;omega)];assumption)
        · (rw [h.cell (by simp;omega)];assumption)
        · (rw [h.cell (by simp;omega)];assumption)
        · (rw [h.cell (by simp;omega)];assumption)
        · (rw [h.cell (by simp;omega)];assumption))
     | (go_split_ands
        refine ⟨?_,?_,?_,?_,?_⟩
        · go_keep
        · go_keep
        · (rw [World.cell?_of_block (X5 M)];assumption)
        · (rw [World.cell?_of_block (X5 M)];assumption)
        · (rw [World.cell?_of_block (X5 ah)];assumption)))
   ((go_at_call 58;refine (Qb ag _ ((Qb af).below X4.drew)).mono ?_;rintro e a3 ⟨o,s,rfl,ai,h⟩;have bd:=(Xh h g (k*6+4) (by (try simp);omega)).trans aA))
 go_wp2;go_ret;have aj:R[k]=a:=a9.out;have N:=aa.out.trans (D.out.mono ad);have y:=N.trans ((Below.refl x.heap.size x).drew.trans h |>.mono (by omega));have a4:=(L.out.below (X4.drew.trans h)).wrote (S':=JH S w (a3.setCell (Xa g (k*6+4)) (.slice o (QQ a.ats nm c).length s))) (λb _ t=>.inl t) k 4 (.slice o (QQ a.ats nm c).length s) { R[k] with ats:=QQ a.ats nm c,ao:=o,an:=(QQ a.ats nm c).length,ac:=s } C (by omega) rfl (by have aD:=(L.out.below (X4.drew.trans h)).node R[k] (Xa0 C);exact QhP (w2:=x) aD a6 (Qkn (Qey B.out.an B.out.at') H (by unfold maxLen;omega)) ai N.size aB aC (by rw [QJ]));rw [aj] at a4;refine ⟨rfl,⟨y.os,y.tape,y.output,by rw [QJ];exact y.size,λb A aE=>?_⟩,_,o,s,a4,λ_ e=>.inl e⟩;exact (Below.heap_setCell a3 (Xa g (k*6+4)) _ b (λe=>aE (.inr (by rw [e];rfl)))).trans (y.block b A)
theorem Qvc S p R last v (f id pa bf E:Int) (F nm c:ByteArray) w (t:Qq S w p R last v) (aK:(f==1)=false) (k:Nat) (C:k<R.length) (O:Qk R id=(k:Int)) (aL:(E !=0)=false) (aM:F.toList.isEmpty=true) (aN:(pa !=0)=false) (aO:(bf !=0)=false) (aP:(f==2)=false) (aQ:(f==3)=false) (aR:(f==6)=false) (aG:(f !=2)=true) (H:nm.size<=maxLen) (I:QK nm=true) (aH:R[k].tag.toList.isEmpty=false) (aS:(c.size:Int)<=20) (aT:(f !=4)=false) (aU:(f==5)=false) (aI:R[k].an<=(QI R[k].ats nm).length) (b2:R[k].an<5) (a6:(QQ R[k].ats nm c).length<=5) : Xl 37 #[Xp p,.agg #[Xi f,Xi id,Xi pa,Xi bf,Xi E,.string F,.string nm,.string c]] w λe w'=>e=.returned (.bool true)/\Qi (pv p v) w w'/\∃ ak i j,Qay S w w' p (R.set k { R[k] with ats:=QQ R[k].ats nm c,ao:=i,an:=(QQ R[k].ats nm c).length,ac:=j }) last v ak:=by
 obtain ⟨g,a7,rfl,aV,P,aW,a8,a5,al,ap,aq,ar,T,au,aJ,av,U,aw,V,ax⟩:=ZO t C O;have fr:∀ r,Xf w g (k*6+r):=λr=>t.row.frozenAt (k*6+r);clear O;have ay:=QbB I H;clear I;have aX:=Qa t;have u:=Qa (t.node R[k] (Xa0 C));clear t a5;generalize J:R[k]=a at *;have a9:=Qa J;clear J;have b3:decide ((QI a.ats nm).length<a.an)=false:=by simp;omega
 go_enter Tryz.func37,Tryz.ntmps37;go_wp2_with (first|(go_at_call_of 49 (Xi id);refine (Qb ax _ ((Qb V).below Xd)).mono ?_;rintro e w1 ⟨rfl,rfl⟩)|(go_at_call 45;refine (Qb ay _).mono ?_;rintro e w1 ⟨rfl,rfl⟩));generalize m:(w.alloc (.cells #[Xi f,Xi id,Xi pa,Xi bf,Xi E,.string F,.string nm,.string c] 29)).alloc (.cells #[Xi a.id,Xi a.par,.string a.tag,Xi a.key,.slice a.ao a.an a.ac,.string a.text] 91)=w2;have l:=Xu m;have b4:w.heap.size+1<w2.heap.size:=by rw [<- m];simp
 have q0:=Xx m 0 (Xi f) rfl;have W:=Xx m 6 (.string nm) rfl;have X:=Xx m 7 (.string c) rfl;have Y:=Xy m 4 (.slice a.ao a.an a.ac) rfl;have a0:=(Xh l p 0 av).trans U;have a1:=(Xh l g (k*6+4) P).trans T;have a2:=(Xj l g (k*6+4) P).trans (fr 4);have aa:=Qa l;have ab:=Qa (V.out.below l);have B:=Qa (u.out.below l);have ad:=l.size;have ae:Hid (∀ w',Zn w' a.ao a.an (QP a.ats) (Q6 a.ats)->Xl 57 #[.slice a.ao a.an a.ac,.string nm] w' λe n=>∃ i j,e=.returned (.slice i (QI a.ats nm).length j)/\Jg n w'.heap.size (.slice i (QI a.ats nm).length j) (QI a.ats nm)/\Xb w' n):=by refine Qa λw' G=>(Qe2 a.ao a.an a.ac a.ats nm w' u.out.an (by have:=u.out.few;omega) G).mono ?_;rintro e n ⟨q,rfl,z,A⟩;obtain ⟨i,j,rfl⟩:=Qy z;exact ⟨i,j,rfl,z,A⟩
 have aF:=u.out.few;clear m l U aw al ap aq ar T au fr;go_wp2_with (first|(go_at_call 57;refine (Qb ae _ (Qb B).at').mono ?_;rintro e x ⟨i,j,rfl,K,d⟩;have aY:=Qa K;have D:=Qa d;have b5:=d.size;have az:=(Xh d w.heap.size 0 (by (try simp);omega)).trans q0;have b6:=(Xh d w.heap.size 6 (by (try simp);omega)).trans W;have b7:=(Xh d w.heap.size 7 (by (try simp);omega)).trans X;have b8:=(Xh d (w.heap.size+1) 4 (by (try simp);omega)).trans Y;have b9:=(Xh d p 0 (by (try simp);omega)).trans a0;have aA:=(Xh d g (k*6+4) (by (try simp);omega)).trans a1;have ba:=(Xj d g (k*6+4) (by (try simp);omega)).trans a2;clear K d q0 W X Y a0 a1 a2));have L:=Qa (ab.out.below D.out);have af:=Qa ((B.out.below D.out).at');have ag:Hid (∀ w',Zn w' a.ao a.an (QP a.ats) (Q6 a.ats)->Xl 58 #[.slice a.ao a.an a.ac,.string nm,.string c] w' λe n=>∃ o s,e=.returned (.slice o (QQ a.ats nm c).length s)/\Jg n w'.heap.size (.slice o (QQ a.ats nm c).length s) (QQ a.ats nm c)/\Xb w' n):=by refine Qa λw' G=>(QmY a.ao a.an a.ac a.ats nm c w' u.out.an (by have:=u.out.few;omega) G).mono ?_;rintro e n ⟨q,rfl,z,A⟩;obtain ⟨i,j,rfl⟩:=Qy z;exact ⟨i,j,rfl,z,A⟩
 have bb:(0:Int)<=(k:Int):=by omega
 have bc:(k:Int)<(R.length:Int):=by omega
 have bd:w.heap.size+1<x.heap.size:=by omega
 have aB:p<x.heap.size:=by omega
 have aC:g<x.heap.size:=by omega
 have aZ:p≠g:=λe=>a8 e.symm;have M:w.heap.size≠g:=by omega
 have ah:w.heap.size+1≠g:=by omega
 have b0:g≠w.heap.size:=by omega
 have b1:g≠w.heap.size+1:=by omega
 clear az
 go_region_held3 (λw'=>w'.frozen? (Xa g (k*6+4))=false/\w'.cell? (Xa p 0)=some (Xe g R.length a7)/\w'.cell? (Xa w.heap.size 6)=some (.string nm)/\w'.cell? (Xa w.heap.size 7)=some (.string c)/\w'.cell? (Xa (w.heap.size+1) 4)=some (.slice a.ao a.an a.ac))
   (first
     | go_keep
     | (go_split_ands
        refine ⟨?_,?_,?_,?_,?_⟩
        · (rw [h.frozen (by simp;omega)];assumption)
        · (rw [h.cell (by simp;omega)];assumption)
        · (rw [h.cell (by simp;omega)];assumption)
        · (rw [h.cell (by simp;omega)];assumption)
        · (rw [h.cell (by simp;omega)];assumption))
     | (go_split_ands
        refine ⟨?_,?_,?_,?_,?_⟩
        · go_keep
        · go_keep
        · (rw [World.cell?_of_block (X5 M)];assumption)
        · (rw [World.cell?_of_block (X5 M)];assumption)
        · (rw [World.cell?_of_block (X5 ah)];assumption)))
   ((go_at_call 58;refine (Qb ag _ ((Qb af).below X4.drew)).mono ?_;rintro e a3 ⟨o,s,rfl,ai,h⟩;have bg:=(Xh h g (k*6+4) (by (try simp);omega)).trans aA))
 go_wp2;go_ret;have aj:R[k]=a:=a9.out;have N:=aa.out.trans (D.out.mono ad);have y:=N.trans ((Below.refl x.heap.size x).drew.trans h |>.mono (by omega));have a4:=(L.out.below (X4.drew.trans h)).wrote (S':=JH S w (a3.setCell (Xa g (k*6+4)) (.slice o (QQ a.ats nm c).length s))) (λb _ t=>.inl t) k 4 (.slice o (QQ a.ats nm c).length s) { R[k] with ats:=QQ a.ats nm c,ao:=o,an:=(QQ a.ats nm c).length,ac:=s } C (by omega) rfl (by have aD:=(L.out.below (X4.drew.trans h)).node R[k] (Xa0 C);exact QhP (w2:=x) aD a6 (Qkn (Qey B.out.an B.out.at') H (by unfold maxLen;omega)) ai N.size aB aC (by rw [QJ]));rw [aj] at a4;refine ⟨rfl,⟨y.os,y.tape,y.output,by rw [QJ];exact y.size,λb A aE=>?_⟩,_,o,s,a4,λ_ e=>.inl e⟩;exact (Below.heap_setCell a3 (Xa g (k*6+4)) _ b (λe=>aE (.inr (by rw [e];rfl)))).trans (y.block b A)
attribute [local go_sem ↓] Go.wp_at_zero Go.wp_at_succ
theorem QwY S p R last v (a id pa bf f:Int) (h nm s:ByteArray) w (j:Qq S w p R last v) (y:(a==1)=false) (k:Nat) (t:k<R.length) (i:Qk R id=(k:Int)) (z:(f !=0)=false) (A:h.toList.isEmpty=true) (m:a=2) (B:nm.toList.isEmpty=false) (n o:Int) (c:Qk R pa=n) (d:Qk R bf=o) : Xl 37 #[Xp p,.agg #[Xi a,Xi id,Xi pa,Xi bf,Xi f,.string h,.string nm,.string s]] w λe w'=>e=.returned (.bool false)/\Xb w w':=by subst m;have q:=Qaa S p last v c;have r:=Qaa S p last v d;obtain ⟨g,C,rfl,D,G,E,F,l,H,I,J,K,L,M,x,N,O,P,b,u⟩:=ZO j t i;clear i c d;clear j l;generalize R[k]=T at *;go_enter Tryz.func37,Tryz.ntmps37;go_wp2_with (first|(go_at_call_of 49 (Xi id);refine (Qb u _ ((Qb b).below Xd)).mono ?_;rintro e w1 ⟨rfl,rfl⟩)|(go_at_call_of 49 (Xi pa);refine (Qb q _ ((Qb b).below Xn)).mono ?_;rintro e w1 ⟨rfl,rfl⟩)|(go_at_call_of 49 (Xi bf);refine (Qb r _ ((Qb b).below Xn)).mono ?_;rintro e w1 ⟨rfl,rfl⟩));go_big_quiet (fail);go_wp2;go_ret;exact ⟨rfl,Qv Xn _⟩
theorem QuN S p R last v (a id pa bf f:Int) (h nm i:ByteArray) w (l:Qq S w p R last v) (y:(a==1)=false) (k:Nat) (t:k<R.length) (j:Qk R id=(k:Int)) (z:(f !=0)=false) (A:h.toList.isEmpty=true) (n:a=2) (B:nm.toList.isEmpty=true) (C:i.toList.isEmpty=false) (o q:Int) (c:Qk R pa=o) (d:Qk R bf=q) : Xl 37 #[Xp p,.agg #[Xi a,Xi id,Xi pa,Xi bf,Xi f,.string h,.string nm,.string i]] w λe w'=>e=.returned (.bool false)/\Xb w w':=by subst n;have r:=Qaa S p last v c;have s:=Qaa S p last v d;obtain ⟨g,D,rfl,E,H,F,G,m,I,J,K,L,M,N,x,O,P,T,b,u⟩:=ZO l t j;clear j c d;clear l m;generalize R[k]=U at *;go_enter Tryz.func37,Tryz.ntmps37;go_wp2_with (first|(go_at_call_of 49 (Xi id);refine (Qb u _ ((Qb b).below Xd)).mono ?_;rintro e w1 ⟨rfl,rfl⟩)|(go_at_call_of 49 (Xi pa);refine (Qb r _ ((Qb b).below Xn)).mono ?_;rintro e w1 ⟨rfl,rfl⟩)|(go_at_call_of 49 (Xi bf);refine (Qb s _ ((Qb b).below Xn)).mono ?_;rintro e w1 ⟨rfl,rfl⟩));go_big_quiet (fail);go_wp2;go_ret;exact ⟨rfl,Qv Xn _⟩
theorem Qqs S p R last v (a id pa bf f:Int) (h nm i:ByteArray) w (l:Qq S w p R last v) (y:(a==1)=false) (k:Nat) (t:k<R.length) (j:Qk R id=(k:Int)) (z:(f !=0)=false) (A:h.toList.isEmpty=true) (n:a=2) (B:nm.toList.isEmpty=true) (C:i.toList.isEmpty=true) (D:(id==1)=true) (o q:Int) (c:Qk R pa=o) (d:Qk R bf=q) : Xl 37 #[Xp p,.agg #[Xi a,Xi id,Xi pa,Xi bf,Xi f,.string h,.string nm,.string i]] w λe w'=>e=.returned (.bool false)/\Xb w w':=by subst n;have r:=Qaa S p last v c;have s:=Qaa S p last v d;obtain ⟨g,E,rfl,F,I,G,H,m,J,K,L,M,N,O,x,P,T,U,b,u⟩:=ZO l t j;clear j c d;clear l m;generalize R[k]=V at *;go_enter Tryz.func37,Tryz.ntmps37;go_wp2_with (first|(go_at_call_of 49 (Xi id);refine (Qb u _ ((Qb b).below Xd)).mono ?_;rintro e w1 ⟨rfl,rfl⟩)|(go_at_call_of 49 (Xi pa);refine (Qb r _ ((Qb b).below Xn)).mono ?_;rintro e w1 ⟨rfl,rfl⟩)|(go_at_call_of 49 (Xi bf);refine (Qb s _ ((Qb b).below Xn)).mono ?_;rintro e w1 ⟨rfl,rfl⟩));go_big_quiet (fail);go_wp2;go_ret;exact ⟨rfl,Qv Xn _⟩
theorem Qti S p R last v (a id pa bf f:Int) (h nm i:ByteArray) w (l:Qq S w p R last v) (x:(a==1)=false) (k:Nat) (s:k<R.length) (j:Qk R id=(k:Int)) (y:(f !=0)=false) (z:h.toList.isEmpty=true) (n:a=2) (A:nm.toList.isEmpty=true) (B:i.toList.isEmpty=true) (C:(id==1)=false) (o:Int) (c:Qk R pa=-1) (d:Qk R bf=o) : Xl 37 #[Xp p,.agg #[Xi a,Xi id,Xi pa,Xi bf,Xi f,.string h,.string nm,.string i]] w λe w'=>e=.returned (.bool false)/\Xb w w':=by subst n;have q:=Qaa S p last v c;have r:=Qaa S p last v d;obtain ⟨g,D,rfl,E,H,F,G,m,I,J,K,L,M,N,u,O,P,T,b,t⟩:=ZO l s j;clear j c d;clear l m;generalize R[k]=U at *;go_enter Tryz.func37,Tryz.ntmps37;go_wp2_with (first|(go_at_call_of 49 (Xi id);refine (Qb t _ ((Qb b).below Xd)).mono ?_;rintro e w1 ⟨rfl,rfl⟩)|(go_at_call_of 49 (Xi pa);refine (Qb q _ ((Qb b).below Xn)).mono ?_;rintro e w1 ⟨rfl,rfl⟩)|(go_at_call_of 49 (Xi bf);refine (Qb r _ ((Qb b).below Xn)).mono ?_;rintro e w1 ⟨rfl,rfl⟩));go_big_quiet (fail);go_wp2;go_ret;exact ⟨rfl,Qv Xn _⟩
theorem QoC S p R last v (a id pa bf h:Int) (i nm j:ByteArray) w (m:Qq S w p R last v) (A:(a==1)=false) (k:Nat) (s:k<R.length) (l:Qk R id=(k:Int)) (B:(h !=0)=false) (C:i.toList.isEmpty=true) (n:a=2) (D:nm.toList.isEmpty=true) (E:j.toList.isEmpty=true) (F:(id==1)=false) (t:Nat) (u:t<R.length) (d:Qk R pa=(t:Int)) (y:R[t].tag.toList.isEmpty=true) (o:Int) (f:Qk R bf=o) : Xl 37 #[Xp p,.agg #[Xi a,Xi id,Xi pa,Xi bf,Xi h,.string i,.string nm,.string j]] w λe w'=>e=.returned (.bool false)/\Xb w w':=by
 subst n;have q:=Qaa S p last v d;have r:=Qaa S p last v f;obtain ⟨g,G,rfl,H,M,I,J,c,N,O,P,T,U,V,z,W,X,Y,b,x⟩:=ZO m s l;have a0:Xc w g (t*6+2) (.string R[t].tag):=c t 2 u (by omega);have K:(0:Int)<=(t:Int):=by omega
 have L:(t:Int)<(R.length:Int):=by omega
 have a1:decide ((t:Int)<0)=false:=by simp
 clear l d f;clear m c;generalize R[k]=a2 at *;generalize R[t].tag=a3 at *;go_enter Tryz.func37,Tryz.ntmps37;go_wp2_with (first|(go_at_call_of 49 (Xi id);refine (Qb x _ ((Qb b).below Xd)).mono ?_;rintro e w1 ⟨rfl,rfl⟩)|(go_at_call_of 49 (Xi pa);refine (Qb q _ ((Qb b).below Xn)).mono ?_;rintro e w1 ⟨rfl,rfl⟩)|(go_at_call_of 49 (Xi bf);refine (Qb r _ ((Qb b).below Xn)).mono ?_;rintro e w1 ⟨rfl,rfl⟩));go_big_quiet (fail);go_wp2;go_ret;exact ⟨rfl,Qv Xn _⟩
theorem Qsw S p R last v (a id pa bf h:Int) (i nm j:ByteArray) w (m:Qq S w p R last v) (z:(a==1)=false) (k:Nat) (r:k<R.length) (l:Qk R id=(k:Int)) (A:(h !=0)=false) (B:i.toList.isEmpty=true) (n:a=2) (C:nm.toList.isEmpty=true) (D:j.toList.isEmpty=true) (E:(id==1)=false) (t:Nat) (s:t<R.length) (d:Qk R pa=(t:Int)) (x:R[t].tag.toList.isEmpty=false) (F:(bf !=0)=true) (f:Qk R bf=-1) : Xl 37 #[Xp p,.agg #[Xi a,Xi id,Xi pa,Xi bf,Xi h,.string i,.string nm,.string j]] w λe w'=>e=.returned (.bool false)/\Xb w w':=by
 subst n;have o:=Qaa S p last v d;have q:=Qaa S p last v f;obtain ⟨g,G,rfl,H,M,I,J,c,N,O,P,T,U,V,y,W,X,Y,b,u⟩:=ZO m r l;have a0:Xc w g (t*6+2) (.string R[t].tag):=c t 2 s (by omega);have K:(0:Int)<=(t:Int):=by omega
 have L:(t:Int)<(R.length:Int):=by omega
 have a1:decide ((t:Int)<0)=false:=by simp
 clear l d f;clear m c;generalize R[k]=a2 at *;generalize R[t].tag=a3 at *;go_enter Tryz.func37,Tryz.ntmps37;go_wp2_with (first|(go_at_call_of 49 (Xi id);refine (Qb u _ ((Qb b).below Xd)).mono ?_;rintro e w1 ⟨rfl,rfl⟩)|(go_at_call_of 49 (Xi pa);refine (Qb o _ ((Qb b).below Xn)).mono ?_;rintro e w1 ⟨rfl,rfl⟩)|(go_at_call_of 49 (Xi bf);refine (Qb q _ ((Qb b).below Xn)).mono ?_;rintro e w1 ⟨rfl,rfl⟩));go_big_quiet (fail);go_wp2;go_ret;exact ⟨rfl,Qv Xn _⟩
theorem Qow S p R last v (c id pa bf i:Int) (j nm l:ByteArray) w (n:Qq S w p R last v) (B:(c==1)=false) (k:Nat) (s:k<R.length) (m:Qk R id=(k:Int)) (C:(i !=0)=false) (D:j.toList.isEmpty=true) (o:c=2) (E:nm.toList.isEmpty=true) (F:l.toList.isEmpty=true) (G:(id==1)=false) (t:Nat) (u:t<R.length) (f:Qk R pa=(t:Int)) (z:R[t].tag.toList.isEmpty=false) (H:(bf !=0)=true) (b:Nat) (x:b<R.length) (h:Qk R bf=(b:Int)) (I:(R[b].par !=pa)=true) : Xl 37 #[Xp p,.agg #[Xi c,Xi id,Xi pa,Xi bf,Xi i,.string j,.string nm,.string l]] w λe w'=>e=.returned (.bool false)/\Xb w w':=by
 subst o;have q:=Qaa S p last v f;have r:=Qaa S p last v h;obtain ⟨g,J,rfl,K,U,L,M,a,V,W,X,Y,a0,a1,A,a2,a3,a4,d,y⟩:=ZO n s m;have a5:Xc w g (t*6+2) (.string R[t].tag):=a t 2 u (by omega);have N:(0:Int)<=(t:Int):=by omega
 have O:(t:Int)<(R.length:Int):=by omega
 have a6:decide ((t:Int)<0)=false:=by simp
 have a7:Xc w g (b*6+1) (Xi R[b].par):=a b 1 x (by omega);have P:(0:Int)<=(b:Int):=by omega
 have T:(b:Int)<(R.length:Int):=by omega
 have a8:decide ((b:Int)<0)=false:=by simp
 clear m f h;clear n a;generalize R[k]=a9 at *;generalize R[t].tag=aa at *;generalize R[b].par=ab at *;go_enter Tryz.func37,Tryz.ntmps37;go_wp2_with (first|(go_at_call_of 49 (Xi id);refine (Qb y _ ((Qb d).below Xd)).mono ?_;rintro e w1 ⟨rfl,rfl⟩)|(go_at_call_of 49 (Xi pa);refine (Qb q _ ((Qb d).below Xn)).mono ?_;rintro e w1 ⟨rfl,rfl⟩)|(go_at_call_of 49 (Xi bf);refine (Qb r _ ((Qb d).below Xn)).mono ?_;rintro e w1 ⟨rfl,rfl⟩));go_big_quiet (fail);go_wp2;go_ret;exact ⟨rfl,Qv Xn _⟩
theorem QrR S p R last v (c id pa bf i:Int) (j nm l:ByteArray) w (n:Qq S w p R last v) (B:(c==1)=false) (k:Nat) (s:k<R.length) (m:Qk R id=(k:Int)) (C:(i !=0)=false) (D:j.toList.isEmpty=true) (o:c=2) (E:nm.toList.isEmpty=true) (F:l.toList.isEmpty=true) (G:(id==1)=false) (t:Nat) (u:t<R.length) (f:Qk R pa=(t:Int)) (z:R[t].tag.toList.isEmpty=false) (H:(bf !=0)=true) (b:Nat) (x:b<R.length) (h:Qk R bf=(b:Int)) (I:(R[b].par !=pa)=false) (J:(bf==id)=true) : Xl 37 #[Xp p,.agg #[Xi c,Xi id,Xi pa,Xi bf,Xi i,.string j,.string nm,.string l]] w λe w'=>e=.returned (.bool false)/\Xb w w':=by
 subst o;have q:=Qaa S p last v f;have r:=Qaa S p last v h;obtain ⟨g,K,rfl,L,V,M,N,a,W,X,Y,a0,a1,a2,A,a3,a4,a5,d,y⟩:=ZO n s m;have a6:Xc w g (t*6+2) (.string R[t].tag):=a t 2 u (by omega);have O:(0:Int)<=(t:Int):=by omega
 have P:(t:Int)<(R.length:Int):=by omega
 have a7:decide ((t:Int)<0)=false:=by simp
 have a8:Xc w g (b*6+1) (Xi R[b].par):=a b 1 x (by omega);have T:(0:Int)<=(b:Int):=by omega
 have U:(b:Int)<(R.length:Int):=by omega
 have a9:decide ((b:Int)<0)=false:=by simp
 clear m f h;clear n a;generalize R[k]=aa at *;generalize R[t].tag=ab at *;generalize R[b].par=ac at *;go_enter Tryz.func37,Tryz.ntmps37;go_wp2_with (first|(go_at_call_of 49 (Xi id);refine (Qb y _ ((Qb d).below Xd)).mono ?_;rintro e w1 ⟨rfl,rfl⟩)|(go_at_call_of 49 (Xi pa);refine (Qb q _ ((Qb d).below Xn)).mono ?_;rintro e w1 ⟨rfl,rfl⟩)|(go_at_call_of 49 (Xi bf);refine (Qb r _ ((Qb d).below Xn)).mono ?_;rintro e w1 ⟨rfl,rfl⟩));go_big_quiet (fail);go_wp2;go_ret;exact ⟨rfl,Qv Xn _⟩
end Go.Proofs.YtobgcaemnpkbmaaGreat
