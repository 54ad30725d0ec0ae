import Derived.Test.YtobgcaemnpkbmaaGreatDoorC16
namespace Go.Proofs.YtobgcaemnpkbmaaGreatDoor
set_option maxRecDepth 100000
set_option maxHeartbeats 8000000
open Go.RowKit List
theorem Qlo (R:List RN) (q:Int):Qe (JM R) q=Qe R q:=by unfold Qe JM;rw [filter_map,map_map];rfl
theorem Qri (nb:Int->Nat) (R:List RN) (i:Int):ZH nb (JM R) i=ZH nb R i:=by unfold ZH JM;rw [any_map];rfl
theorem Jl.bare {m:Qo} {nb:Int->Nat} {w:World} {R:List RN} {n:RN} {o p:Value}:Jl m nb w (JM R) n.bare o p↔Jl m nb w R n o p:=by
 constructor
 ·rintro ⟨d,f,g,h,a,i,j,k,l,b,c⟩;exact ⟨d,f,g,h,by have a:=a;rw [Qlo] at a;exact a,i,j,k,l,b,c⟩
 rintro ⟨d,f,g,h,a,i,j,k,l,b,c⟩;exact ⟨d,f,g,h,by rw [Qlo];exact a,i,j,k,l,b,c⟩
theorem Qi.bare {o:Qo} {nb:Int->Nat} {p:Nat} {r:Option Nat} {w:World} {q:Nat} {R:List RN} {last:Int}:Qi o nb p r w q (JM R) last↔Qi o nb p r w q R last:=by
 have hb:ZH nb (JM R)=ZH nb R:=funext (Qri nb R);constructor
 ·rintro ⟨c,d,f,a,g,h,b⟩;rw [hb,Qcw] at a;rw [Qcw] at b;refine ⟨c,d,f,a,λn i=>?_,h,b⟩;obtain ⟨j,k,l⟩:=g n.bare (Qaq.2 ⟨n,i,rfl⟩);exact ⟨j,k,Jl.bare.1 l⟩
 rintro ⟨c,d,f,a,g,h,b⟩;refine ⟨c,d,f,by rw [hb,Qcw];exact a,λn i=>?_,h,by rw [Qcw];exact b⟩;obtain ⟨m,s,rfl⟩:=Qaq.1 i;obtain ⟨j,k,l⟩:=g m s;exact ⟨j,k,Jl.bare.2 l⟩
theorem Qi.same {a:Qo} {nb:Int->Nat} {b:Nat} {c:Option Nat} {w:World} {q:Nat} {R R':List RN} {last:Int} (h:Qi a nb b c w q R last) (e:JM R=JM R'):Qi a nb b c w q R' last:=by rw [<- Qi.bare,<- e,Qi.bare];exact h
theorem ZA.bare {R:List RN}:ZA (JM R)↔ZA R:=by
 constructor
 ·intro h n a;exact h n.bare (Qaq.2 ⟨n,a,rfl⟩)
 intro h n a;obtain ⟨m,b,rfl⟩:=Qaq.1 a;exact h m b
theorem Qlj (m:Qo) (nb:Int->Nat) (j:Nat) (w:World) (q:Nat) (R:List RN) (last:Int) (h:Qi m nb j (some (nb 1)) w q R last) (O:QE R last) (Y:ZA R) (ao:Option Addr) (n c:Nat) (X:Nat->Qn) (aw:last+n<=4611686018427387904) (ax:n<=2199023255552) (a0:Qd4 w ao n X) (I:0<n->∀ a,ao=some a->m a.block=none) (a1:∀ i,i<n->(X i).Ok/\(X i).Ints) : Xl 36 #[Xp q,.slice ao n c] w λe w'=>∃ k,k<=n/\Qam R last X k/\(∃ d ρ',QV m ρ' w w'/\Qi ρ' d j (some (d 1)) w' q (QP R last X k).1 (QP R last X k).2)/\((k=n/\e=.returned (.tuple #[Xi 0,Xi 0])) \/ (k<n/\canP (QP R last X k).1 (QP R last X k).2 (X k)=false/\e=.returned (.tuple #[Xi 4,Xi k]))):=by
 have a9:Hid (∀ b f,0<n->ao=some (Xa b f)->m b=none):=Qa λb f af e=>I af _ e;have ag:=Qa a0;have aa:=Qa a1;have ah:Hid (∀ k,Qam R last X k->QE (QP R last X k).1 (QP R last X k).2/\ZA (QP R last X k).1/\(QP R last X k).2<=last+k):=Qa λk G=>G.ok O Y;have ai:=Qa h;clear I a0 a1 O Y h;go_enter Tryz.func36,Tryz.ntmps36;go_wp2;go_loopw [6,7,10] (λ_ _ i wr=>∃ k:Nat,k<=n/\i=Xi k/\Hid (Qam R last X k)/\Hid (∃ d ρ',QV m ρ' w wr/\Qi ρ' d j (some (d 1)) wr q (QP R last X k).1 (QP R last X k).2)) (λ_ _ i _=>n-(intOf i).toNat);·exact ⟨0,Nat.zero_le _,rfl,Qa (Qam.zero _ _ _),Qa ⟨nb,m,⟨Qx.of_below (Below.refl _ _),λ_ _=>rfl,λ_ h=>.inl h⟩,Qb ai⟩⟩
 case round =>
  obtain ⟨k,a2,rfl,x,K⟩:=hrel;by_cases P:k<n
  ·obtain ⟨p,s,t,E⟩:=K.out;obtain ⟨b,f,S,D⟩:=ag.out (by omega);have ab:=D.lt;have L:=a9.out b f (by omega) S;subst S;obtain ⟨M,T,aq⟩:=ah.out k x.out;obtain ⟨U,V⟩:=aa.out k P;have g:∀ r,r<8->wr.cell? (Xa b (f+(k*8+r)))=some (QaX (X k) r):=λr G=>by rw [World.cell?_of_block (t.1.block b ab (by rw [L];simp)),D.cell _ (by omega),QpY _ _ _ G]
   have ar:(k:Int)<(n:Int):=by omega
   have au:=Qa E;have av:=Qa t;have y:Hid (∀ o,Xb wr o->Xl 63 #[Xp q,(X k).val] o λe w'=>e=.returned (.bool (canP (QP R last X k).1 (QP R last X k).2 (X k)))/\QW s p j wr q (QP R last X k).1 (QP R last X k).2 (X k) (canP (QP R last X k).1 (QP R last X k).2 (X k)) w'):=Qa λo W=>by refine (Qsr s p j o q _ _ (E.below W) M T (by omega) (X k) U V).mono ?_;rintro e w' ⟨b,rfl,l⟩;have aj:=l.1;subst aj;exact ⟨rfl,l.after W⟩
   have J:Hid (canP (QP R last X k).1 (QP R last X k).2 (X k)=true->∀ w',QW s p j wr q (QP R last X k).1 (QP R last X k).2 (X k) true w'->∃ d ρ',QV m ρ' w w'/\Qi ρ' d j (some (d 1)) w' q (QP R last X (k+1)).1 (QP R last X (k+1)).2):=Qa λ_ w' l=>by obtain ⟨_,d,ρ',H,_,u⟩:=l;rw [if_pos rfl,if_pos rfl] at u;exact ⟨d,ρ',t.trans H,u⟩
   have a7:Hid (∀ w',QW s p j wr q (QP R last X k).1 (QP R last X k).2 (X k) false w'->∃ d ρ',QV m ρ' w w'/\Qi ρ' d j (some (d 1)) w' q (QP R last X k).1 (QP R last X k).2):=Qa λw' l=>by obtain ⟨_,d,ρ',H,_,u⟩:=l;rw [if_neg (by simp),if_neg (by simp)] at u;exact ⟨d,ρ',t.trans H,u⟩
   have N:Hid (∀ v,canP (QP R last X k).1 (QP R last X k).2 (X k)=v->canP (QP R last X k).1 (QP R last X k).2 (X k)=v):=Qa λ_ e=>e;clear E t M T U V D L;generalize a3:canP (QP R last X k).1 (QP R last X k).2 (X k)=C at y J N;have a4:=Qa a3;clear a3 N;generalize ac:QW s p j wr q (QP R last X k).1 (QP R last X k).2 (X k)=ak at *;clear ac;obtain ⟨z,id,pa,bf,A,tg,nm,B,F⟩:∃ z id pa bf A tg nm B,X k=⟨z,id,pa,bf,A,tg,nm,B⟩:=⟨_,_,_,_,_,_,_,_,rfl⟩;rw [F] at g;have a8:Hid (∀ o,Xb wr o->Xl 63 #[Xp q,.agg #[Xi z,Xi id,Xi pa,Xi bf,Xi A,.string tg,.string nm,.string B]] o λe w'=>e=.returned (.bool C)/\ak C w'):=by rw [F] at y;exact y
   clear F y;have ay:wr.cell? (Xa b (f+k*8))=some (Xi z):=by have:=g 0 (by decide);simpa [QaX,Nat.add_assoc] using this
   have az:wr.cell? (Xa b (f+k*8+1))=some (Xi id):=by have:=g 1 (by decide);simpa [QaX,Nat.add_assoc] using this
   have aA:wr.cell? (Xa b (f+k*8+2))=some (Xi pa):=by have:=g 2 (by decide);simpa [QaX,Nat.add_assoc] using this
   have aB:wr.cell? (Xa b (f+k*8+3))=some (Xi bf):=by have:=g 3 (by decide);simpa [QaX,Nat.add_assoc] using this
   have aC:wr.cell? (Xa b (f+k*8+4))=some (Xi A):=by have:=g 4 (by decide);simpa [QaX,Nat.add_assoc] using this
   have aD:wr.cell? (Xa b (f+k*8+5))=some (.string tg):=by have:=g 5 (by decide);simpa [QaX,Nat.add_assoc] using this
   have aE:wr.cell? (Xa b (f+k*8+6))=some (.string nm):=by have:=g 6 (by decide);simpa [QaX,Nat.add_assoc] using this
   have aF:wr.cell? (Xa b (f+k*8+7))=some (.string B):=by have:=g 7 (by decide);simpa [QaX,Nat.add_assoc] using this
   clear g;go_wp2_with fail;refine (a8.out _ Xd).mono ?_;rintro e a5 ⟨rfl,l⟩;have a6:=Qa l;clear l;cases C with
   | true =>
    have al:=Qa (J.out rfl a5 a6.out);have ad:=Qa (x.out.succ a4.out);go_wp2;go_roundw;·exact ⟨k+1,by omega,by go_num,ad,al⟩
    simp [intOf];omega
   | false =>have ap:=Qa (a7.out a5 a6.out);go_wp2;refine bodyPost_ret (results_tmp2 rfl _ _ _) rfl ?_;exact ⟨k,a2,x.out,ap.out,.inr ⟨P,a4.out,rfl⟩⟩
  have ae:k=n:=by omega
  subst ae;go_wp2;refine bodyPost_ret (results_tmp2 rfl _ _ _) rfl ?_;exact ⟨k,a2,x.out,K.out,.inl ⟨rfl,rfl⟩⟩
theorem Qr1 (A:Nat) (nm vl x:ByteArray) (w:World) (a:Xc w A 0 (.string x)) (b:A<w.heap.size) : Xl 131 #[.agg #[.string nm,.string vl],Xp A] w λe w'=>e=.returned (.bool (nm.toList==x.toList))/\Xb w w':=by go_enter Tryz.func131,Tryz.ntmps131;go_wp2;go_ret;exact ⟨rfl,Xd⟩
def Jy (nm:Nat->ByteArray) (x:ByteArray) (k:Nat):Bool:=(List.range k).any λj=>(nm j).toList==x.toList
theorem QmR (nm:Nat->ByteArray) (x:ByteArray) (k:Nat):Jy nm x (k+1)=(Jy nm x k||((nm k).toList==x.toList)):=by unfold Jy;rw [range_succ,any_append];simp
theorem QrP {nm:Nat->ByteArray} {x:ByteArray} {j n:Nat} (a:j<n) (h:((nm j).toList==x.toList)=true):Jy nm x n=true:=by unfold Jy;exact any_eq_true.2 ⟨j,mem_range.2 a,h⟩
def J2 (nm vl:Nat->ByteArray) (x a:ByteArray) (k:Nat):Bool:=(List.range k).any λj=>(x.toList==(nm j).toList)&&(a.toList==(vl j).toList)
theorem Qsv (nm vl:Nat->ByteArray) (x a:ByteArray) (k:Nat):J2 nm vl x a (k+1)=(J2 nm vl x a k||((x.toList==(nm k).toList)&&(a.toList==(vl k).toList))):=by unfold J2;rw [range_succ,any_append];simp
theorem QmZ {nm vl:Nat->ByteArray} {x a:ByteArray} {j n:Nat} (b:j<n) (h:((x.toList==(nm j).toList)&&(a.toList==(vl j).toList))=true):J2 nm vl x a n=true:=by unfold J2;exact any_eq_true.2 ⟨j,mem_range.2 b,h⟩
theorem Qs4 (ao:Option Addr) (n c:Nat) (nm vl:Nat->ByteArray) (A:Nat) (x:ByteArray) (w:World) (C:n<=1000000) (h:JW w ao n nm vl) (u:Xc w A 0 (.string x)) (p:A<w.heap.size) : Xl 168 #[.slice ao n c,.func (.func 131) #[] #[Xp A]] w λe w'=>(∃ r:Int,e=.returned (Xi r)/\decide (0<=r)=Jy nm x n)/\Xb w w':=by
 have B:=Qa h;clear h;go_enter Tryz.func168,Tryz.ntmps168;go_wp2;go_loopw [5,8] (λ_ i wr=>∃ j:Nat,j<=n/\i=Xi j/\Hid (Jy nm x j=false)/\Hid (Xb w wr)) (λ_ i _=>n-(intOf i).toNat);·exact ⟨0,Nat.zero_le _,rfl,Qa rfl,Qa (Below.refl _ _)⟩
 case round =>
  obtain ⟨j,D,rfl,l,a⟩:=hrel;by_cases m:j<n
  ·obtain ⟨b,q,rfl,o,g,k,_,_⟩:=B.out j m;have E:=(Xh a.out b (q+j*2) o).trans g;have F:=(Xh a.out b (q+j*2+1) o).trans k;have s:(j:Int)<(n:Int):=by omega
   have f:=Qa (Qr1 A (nm j) (vl j) x wr ((Xh a.out A 0 p).trans u) (Nat.lt_of_lt_of_le p a.out.size));cases e:((nm j).toList==x.toList) with
   | true =>rw [e] at f;have v:=Qa (QrP m e);clear g k;go_wp2_with (first|(go_at_call 131;refine (Qb f).mono ?_;rintro e w1 ⟨rfl,d⟩));go_ret;refine ⟨⟨j,rfl,?_⟩,a.out.trans (d.mono a.out.size)⟩;rw [v.out];simp
   | false =>
    rw [e] at f;have y:Hid (Jy nm x (j+1)=false):=Qa (by rw [QmR,l.out,e];rfl);clear g k;go_wp2_with (first|(go_at_call 131;refine (Qb f).mono ?_;rintro e w1 ⟨rfl,d⟩));have z:=Qa (a.out.trans (d.mono a.out.size));clear d;go_roundw;·exact ⟨j+1,by omega,by go_num,y,z⟩
    simp [intOf];omega
  have t:j=n:=by omega
  subst t;have s:¬ (j:Int)<(j:Int):=by omega
  go_wp2;go_ret;exact ⟨⟨-1,rfl,by rw [l.out];rfl⟩,a.out⟩
theorem QrV (ao:Option Addr) (n c:Nat) (nm vl:Nat->ByteArray) (A:Nat) (x:ByteArray) (w:World) (f:n<=1000000) (h:JW w ao n nm vl) (a:Xc w A 0 (.string x)) (g:A<w.heap.size) : Xl 130 #[.slice ao n c,.func (.func 131) #[] #[Xp A]] w λe w'=>e=.returned (.bool (Jy nm x n))/\Xb w w':=by have i:=Qa (Qs4 ao n c nm vl A x w f h a g);clear h a;go_enter Tryz.func130,Tryz.ntmps130;go_wp2_with (first|(go_at_call 168;refine (Qb i).mono ?_;rintro e w1 ⟨⟨r,rfl,b⟩,d⟩;have j:=Qa b;clear b));go_ret;refine ⟨?_,d⟩;rw [<- j.out];simp
theorem QmQ (a b c d:ByteArray) (w:World):(binOp .eql 96 (.agg #[.string a,.string b]) (.agg #[.string c,.string d])).run Tryz.prog w=.ok (.bool ((a.toList==c.toList)&&(b.toList==d.toList))) w:=by
 rw [run_eql_struct,run_equalIn_agg w _ _ _ _ (by kernel_rfl) (by kernel_rfl)];have g:(Tryz.prog.fieldsOf 96).toList.map (λf=>(f.type,f.offset,f.name== "_"))=[(9,0,false),(9,1,false)]:=by kernel_rfl
 generalize (Tryz.prog.fieldsOf 96).toList=h at *;have i:=congrArg List.length g;rw [length_map] at i;rcases h with _|⟨l,_|⟨m,_|⟨n,h⟩⟩⟩;case cons.cons.nil =>simp only [map_cons,map_nil,List.cons.injEq,and_true] at g;obtain ⟨j,k⟩:=g;rw [Qfn w j rfl rfl,Qfn w k rfl rfl,Op.eqFields];cases (a.toList==c.toList)<;>cases (b.toList==d.toList)<;>rfl
 all_goals (simp at i)
theorem Qqv (ao:Option Addr) (n c:Nat) (nm vl:Nat->ByteArray) (x a:ByteArray) (w:World) (K:n<=1000000) (h:JW w ao n nm vl) : Xl 169 #[.slice ao n c,.agg #[.string x,.string a]] w λe w'=>(∃ r:Int,e=.returned (Xi r)/\decide (0<=r)=J2 nm vl x a n)/\Xb w w':=by
 have J:=Qa h;clear h;have l:∀ y z A B (w:World),(binOp .eql 96 (.agg #[.string y,.string z]) (.agg #[.string A,.string B])).run Tryz.prog w=.ok (.bool ((y.toList==A.toList)&&(z.toList==B.toList))) w:=QmQ;go_enter Tryz.func169,Tryz.ntmps169;go_wp2_with fail;have F:(w.alloc (.cells #[.string x,.string a] 96)).cell? (Xa w.heap.size 0)=some (.string x):=by simp [go_sem]
 have G:(w.alloc (.cells #[.string x,.string a] 96)).cell? (Xa w.heap.size 1)=some (.string a):=by simp [go_sem]
 have q:Xb w (w.alloc (.cells #[.string x,.string a] 96)):=Xd;have s:w.heap.size<(w.alloc (.cells #[.string x,.string a] 96)).heap.size:=by simp
 generalize w.alloc (.cells #[.string x,.string a] 96)=C at *;have d:=Qa q;clear q;go_loopw [5,8] (λ_ i wr=>∃ j:Nat,j<=n/\i=Xi j/\Hid (J2 nm vl x a j=false)/\Hid (Xb C wr)) (λ_ i _=>n-(intOf i).toNat);·exact ⟨0,Nat.zero_le _,rfl,Qa rfl,Qa (Below.refl _ _)⟩
 case round =>
  obtain ⟨j,L,rfl,t,f⟩:=hrel;have M:=(Xh f.out w.heap.size 0 s).trans F;have N:=(Xh f.out w.heap.size 1 s).trans G;by_cases u:j<n
  ·obtain ⟨b,g,rfl,k,m,o,_,_⟩:=J.out j u;have p:b<C.heap.size:=Nat.lt_of_lt_of_le k d.out.size;have O:=(Xh f.out b (g+j*2) p).trans ((Xh d.out b (g+j*2) k).trans m);have P:=(Xh f.out b (g+j*2+1) p).trans ((Xh d.out b (g+j*2+1) k).trans o);have D:(j:Int)<(n:Int):=by omega
   have v:=λw=>l x a (nm j) (vl j) w;cases e:((x.toList==(nm j).toList)&&(a.toList==(vl j).toList)) with
   | true =>have H:=Qa (QmZ u e);simp only [e] at v;clear m o l;go_wp2;go_big_quiet (fail);go_wp2;go_ret;refine ⟨⟨j,rfl,?_⟩,d.out.trans (QL (f.out.mono d.out.size) _)⟩;rw [H.out];simp
   | false =>
    have I:Hid (J2 nm vl x a (j+1)=false):=Qa (by rw [Qsv,t.out,e];rfl);simp only [e] at v;clear m o l;go_wp2;go_big_quiet (fail);go_wp2;go_roundw;·exact ⟨j+1,by omega,by go_num,I,Qa (QL f.out _)⟩
    simp [intOf];omega
  have E:j=n:=by omega
  subst E;have D:¬ (j:Int)<(j:Int):=by omega
  go_wp2;go_ret;exact ⟨⟨-1,rfl,by rw [t.out];rfl⟩,d.out.trans (f.out.mono d.out.size)⟩
theorem Quv (ao:Option Addr) (n c:Nat) (nm vl:Nat->ByteArray) (x a:ByteArray) (w:World) (f:n<=1000000) (h:JW w ao n nm vl) : Xl 132 #[.slice ao n c,.agg #[.string x,.string a]] w λe w'=>e=.returned (.bool (J2 nm vl x a n))/\Xb w w':=by have g:Hid (∀ w1,Xb w w1->Xl 169 #[.slice ao n c,.agg #[.string x,.string a]] w1 λe w'=>(∃ r:Int,e=.returned (Xi r)/\decide (0<=r)=J2 nm vl x a n)/\Xb w1 w'):=Qa λw1 hb=>Qqv ao n c nm vl x a w1 f (h.below hb);clear h;go_enter Tryz.func132,Tryz.ntmps132;go_wp2_with (first|(go_at_call 169;refine (Qb g _ Xd).mono ?_;rintro e w1 ⟨⟨r,rfl,b⟩,d⟩;have i:=Qa b;clear b));go_ret;refine ⟨?_,((Below.refl w.heap.size w).alloc (Nat.le_refl _) _).trans (d.mono (by simp))⟩;rw [<- i.out];simp
def Qn.cells (x:Qn):List Value:=[Xi x.kind,Xi x.id,Xi x.par,Xi x.bef,Xi x.key,.string x.tag,.string x.name,.string x.text]
def Qbh (l:List Qn):List Value:=l.flatMap Qn.cells
theorem Qoi (l:List Qn) (x:Qn):Qbh (l++[x])=Qbh l++x.cells:=by unfold Qbh;simp
structure Q3 (B:Nat) (w:World) (WB:Nat) (pv:Value) (P:List Qn) (last:Int):Prop where
 c0:w.cell? (Xa WB 0)=some pv
 f0:w.frozen? (Xa WB 0)=false
 c1:w.cell? (Xa WB 1)=some (Xi last)
 f1:w.frozen? (Xa WB 1)=false
 row:w.ownsRow B 60 8 pv P.length (Qbh P)
 apart:∀ b,pv.ownBlock=some b->b≠WB
 lt:WB<w.heap.size
theorem Qg3 (s:ByteArray) (w:World) (d:s.size<=281474976710656) : Xl 94 #[.string s] w λe w'=>e=.returned (.string s)/\Xb w w'/\(∀ a v,w.cell? a=some v->w'.cell? a=some v)/\∀ b c v,w.cell? (Xa b c)=some v->w.frozen? (Xa b c)=false->w'.frozen? (Xa b c)=false:=by refine (Qcq s w d).mono ?_;rintro e w' ⟨rfl,hb⟩;refine ⟨rfl,hb,λa v h=>(hb.cell (World.block_lt_of_cell? w a h)).trans h,λb c v h f=>(Xj hb b c (World.block_lt_of_cell? w _ h)).trans f⟩
theorem Qjr (U WB:Nat) (pv:Value) (P:List Qn) (last:Int) (w:World) (h:Q3 U w WB pv P last) (b7:U<=w.heap.size) (b8:P.length<=1000000) (x:Qn) (aJ:x.tag.size<=281474976710656) (aK:x.name.size<=281474976710656) (aL:x.text.size<=281474976710656) (b C c:Nat) (hb:b<w.heap.size) (J:∀ r,r<8->w.cell? (Xa b (C+r))=some (QaX x r)) : Xl 97 #[Xp WB,.slice (some (Xa b C)) 1 c] w λe w'=>e=.returned (.tuple #[])/\∃ L,Q3 U w' WB L (P++[x]) last/\(∀ b,L.ownBlock=some b->pv.ownBlock=some b \/ w.heap.size<=b)/\Qx (λb=>b=WB \/ some b=pv.ownBlock) w w':=by
 obtain ⟨aW,aX,aM,aN,aO⟩:=info_parts Qs7;obtain ⟨j,id,pa,bf,k,tg,nm,d⟩:=x;have b9:Xc w b C (Xi j):=J 0 (by omega);have ba:Xc w b (C+1) (Xi id):=J 1 (by omega);have R:Xc w b (C+2) (Xi pa):=J 2 (by omega);have bb:Xc w b (C+3) (Xi bf):=J 3 (by omega);have bc:Xc w b (C+4) (Xi k):=J 4 (by omega);have bd:Xc w b (C+5) (.string tg):=J 5 (by omega);have bg:Xc w b (C+6) (.string nm):=J 6 (by omega);have bh:Xc w b (C+7) (.string d):=J 7 (by omega);have W:=Qa h;clear h J;go_enter Tryz.func97,Tryz.ntmps97;go_wp2;go_loopw [5,8] (λ_ i wr=>(i=Xi 0/\wr=w) \/ (i=Xi 1/\Hid (∃ L,Q3 U wr WB L (P++[⟨j,id,pa,bf,k,tg,nm,d⟩]) last/\(∀ b,L.ownBlock=some b->pv.ownBlock=some b \/ w.heap.size<=b)/\Qx (λb=>b=WB \/ some b=pv.ownBlock) w wr))) (λ_ i _=>1-(intOf i).toNat);·exact .inl ⟨rfl,rfl⟩
 case round =>
  rcases hrel with ⟨rfl,rfl⟩|⟨rfl,aY⟩
  ·go_wp2_with fail;generalize p:wr.alloc (.cells #[Xi j,Xi id,Xi pa,Xi bf,Xi k,.string tg,.string nm,.string d] 60)=T;have al:=Xt p;have aZ:wr.heap.size<T.heap.size:=by rw [<- p];simp
   have ay:=Xz p 0 (Xi j) rfl;have az:=Xz p 1 (Xi id) rfl;have K:=Xz p 2 (Xi pa) rfl;have aA:=Xz p 3 (Xi bf) rfl;have aB:=Xz p 4 (Xi k) rfl;have a8:=Xz p 5 (.string tg) rfl;have a9:=Xz p 6 (.string nm) rfl;have aa:=Xz p 7 (.string d) rfl;have aC:T.frozen? (Xa wr.heap.size 5)=false:=by rw [<- p];simp [go_sem]
   have aD:T.frozen? (Xa wr.heap.size 6)=false:=by rw [<- p];simp [go_sem]
   have aE:T.frozen? (Xa wr.heap.size 7)=false:=by rw [<- p];simp [go_sem]
   have aP:=Qa al;clear p al;have f:(λw':World=>Xc w' wr.heap.size 5 (.string tg)/\Xc w' wr.heap.size 6 (.string nm)/\Xc w' wr.heap.size 7 (.string d)) T.drew:=⟨a8,a9,aa⟩;refine Zm (S:=(λw':World=>w'.cell? (Xa wr.heap.size 5)=some (.string tg)/\w'.cell? (Xa wr.heap.size 6)=some (.string nm)/\w'.cell? (Xa wr.heap.size 7)=some (.string d))) (by kernel_rfl) ?_;iterate 2
    apply Q0 ?_ f ?_;rotate_left
    ·(intro w' hSw;(try obtain ⟨q0,M,N⟩:=hSw);simp only [Xq];go_simp;try (with_reducible rfl))
    simp only [Xq,Xr]
   refine J0 3 ?_;apply JZ ?_ f ?_;rotate_left
   ·(intro w' hSw;(try obtain ⟨q0,M,N⟩:=hSw);simp only [Xq];go_simp;try (with_reducible rfl))
   simp only [Xq,Xr];refine J0 4 ?_;apply JZ ?_ f ?_;rotate_left
   ·(intro w' hSw;(try obtain ⟨q0,M,N⟩:=hSw);simp only [Xq];go_simp;try (with_reducible rfl))
   simp only [Xq,Xr];refine J0 6 ?_;apply JZ ?_ f ?_;rotate_left
   ·(intro w' hSw;(try obtain ⟨q0,M,N⟩:=hSw);simp only [Xq];go_simp;try (with_reducible rfl))
   simp only [Xq,Xr];refine J0 7 ?_;apply JZ ?_ f ?_;rotate_left
   ·(intro w' hSw;(try obtain ⟨q0,M,N⟩:=hSw);simp only [Xq];go_simp;try (with_reducible rfl))
   simp only [Xq,Xr];refine Qq 2 ?_;simp only [Xq];go_simp;refine (Qg3 tg _ aJ).mono ?_;rintro e w2 ⟨rfl,ao,D,a3⟩;have b2_0:Xc w2 wr.heap.size 0 (Xi j):=D _ _ ay;have b2_1:Xc w2 wr.heap.size 1 (Xi id):=D _ _ az;have b2_2:Xc w2 wr.heap.size 2 (Xi pa):=D _ _ K;have b2_3:Xc w2 wr.heap.size 3 (Xi bf):=D _ _ aA;have b2_4:Xc w2 wr.heap.size 4 (Xi k):=D _ _ aB;have b2_5:Xc w2 wr.heap.size 5 (.string tg):=D _ _ a8;have b2_6:Xc w2 wr.heap.size 6 (.string nm):=D _ _ a9;have b2_7:Xc w2 wr.heap.size 7 (.string d):=D _ _ aa;have g2_5:Xf w2 wr.heap.size 5:=a3 _ _ _ a8 aC;have g2_6:Xf w2 wr.heap.size 6:=a3 _ _ _ a9 aD;have g2_7:Xf w2 wr.heap.size 7:=a3 _ _ _ aa aE;clear f;have f:(λw':World=>Xc w' wr.heap.size 5 (.string tg)/\Xc w' wr.heap.size 6 (.string nm)/\Xc w' wr.heap.size 7 (.string d)) w2:=⟨b2_5,b2_6,b2_7⟩;refine ⟨.inr f,?_⟩;have aQ:Hid (Xb wr w2):=Qa (aP.out.trans (((Below.refl T.heap.size T).drew.trans ao).mono (Nat.le_of_lt aZ)));have b0:wr.heap.size<w2.heap.size:=World.block_lt_of_cell? _ _ b2_5;clear ao D a3 ay az K aA aB a8 a9 aa aC aD aE;try simp only [Xr]
   refine J0 9 ?_;apply JZ ?_ f ?_;rotate_left
   ·(intro w' hSw;(try obtain ⟨q0,M,N⟩:=hSw);simp only [Xq];go_simp;try (with_reducible rfl))
   simp only [Xq,Xr];refine Qq 5 ?_;simp only [Xq];go_simp;refine (Qg3 nm _ aK).mono ?_;rintro e q ⟨rfl,ap,E,a4⟩;have b5_0:Xc q wr.heap.size 0 (Xi j):=E _ _ b2_0;have b5_1:Xc q wr.heap.size 1 (Xi id):=E _ _ b2_1;have b5_2:Xc q wr.heap.size 2 (Xi pa):=E _ _ b2_2;have b5_3:Xc q wr.heap.size 3 (Xi bf):=E _ _ b2_3;have b5_4:Xc q wr.heap.size 4 (Xi k):=E _ _ b2_4;have b5_5:Xc q wr.heap.size 5 (.string tg):=E _ _ b2_5;have b5_6:Xc q wr.heap.size 6 (.string nm):=E _ _ b2_6;have b5_7:Xc q wr.heap.size 7 (.string d):=E _ _ b2_7;have g5_5:Xf q wr.heap.size 5:=a4 _ _ _ b2_5 g2_5;have g5_6:Xf q wr.heap.size 6:=a4 _ _ _ b2_6 g2_6;have g5_7:Xf q wr.heap.size 7:=a4 _ _ _ b2_7 g2_7;clear f;have f:(λw':World=>Xc w' wr.heap.size 5 (.string tg)/\Xc w' wr.heap.size 6 (.string nm)/\Xc w' wr.heap.size 7 (.string d)) q:=⟨b5_5,b5_6,b5_7⟩;refine ⟨.inr f,?_⟩;have aR:Hid (Xb wr q):=Qa (aQ.out.trans (ap.mono (Nat.le_of_lt b0)));have b1:wr.heap.size<q.heap.size:=World.block_lt_of_cell? _ _ b5_5;clear ap E a4 b2_0 b2_1 b2_2 b2_3 b2_4 b2_5 b2_6 b2_7 g2_5 g2_6 g2_7;try simp only [Xr]
   refine Qq 8 ?_;simp only [Xq];go_simp;refine (Qg3 d _ aL).mono ?_;rintro e o ⟨rfl,aq,F,a5⟩;have b8_0:Xc o wr.heap.size 0 (Xi j):=F _ _ b5_0;have b8_1:Xc o wr.heap.size 1 (Xi id):=F _ _ b5_1;have b8_2:Xc o wr.heap.size 2 (Xi pa):=F _ _ b5_2;have b8_3:Xc o wr.heap.size 3 (Xi bf):=F _ _ b5_3;have b8_4:Xc o wr.heap.size 4 (Xi k):=F _ _ b5_4;have b8_5:Xc o wr.heap.size 5 (.string tg):=F _ _ b5_5;have b8_6:Xc o wr.heap.size 6 (.string nm):=F _ _ b5_6;have b8_7:Xc o wr.heap.size 7 (.string d):=F _ _ b5_7;have g8_5:Xf o wr.heap.size 5:=a5 _ _ _ b5_5 g5_5;have g8_6:Xf o wr.heap.size 6:=a5 _ _ _ b5_6 g5_6;have g8_7:Xf o wr.heap.size 7:=a5 _ _ _ b5_7 g5_7;clear f;have f:(λw':World=>Xc w' wr.heap.size 5 (.string tg)/\Xc w' wr.heap.size 6 (.string nm)/\Xc w' wr.heap.size 7 (.string d)) o:=⟨b8_5,b8_6,b8_7⟩;refine ⟨.inr f,?_⟩;have aS:Hid (Xb wr o):=Qa (aR.out.trans (aq.mono (Nat.le_of_lt b1)));have bi:wr.heap.size<o.heap.size:=World.block_lt_of_cell? _ _ b8_5;clear aq F a5 b5_0 b5_1 b5_2 b5_3 b5_4 b5_5 b5_6 b5_7 g5_5 g5_6 g5_7;try simp only [Xr]
   refine Qq 10 ?_;simp only [Xq];go_simp;generalize s:o.setCell (Xa wr.heap.size 5) (.string tg)=l;have d10_0:l.cell? (Xa wr.heap.size 0)=some (Xi j):=by rw [<- s];exact (World.cell?_setCell_other _ _ _ _ (by intro e;cases e)).trans b8_0
   have d10_1:l.cell? (Xa wr.heap.size 1)=some (Xi id):=by rw [<- s];exact (World.cell?_setCell_other _ _ _ _ (by intro e;cases e)).trans b8_1
   have d10_2:l.cell? (Xa wr.heap.size 2)=some (Xi pa):=by rw [<- s];exact (World.cell?_setCell_other _ _ _ _ (by intro e;cases e)).trans b8_2
   have d10_3:l.cell? (Xa wr.heap.size 3)=some (Xi bf):=by rw [<- s];exact (World.cell?_setCell_other _ _ _ _ (by intro e;cases e)).trans b8_3
   have d10_4:l.cell? (Xa wr.heap.size 4)=some (Xi k):=by rw [<- s];exact (World.cell?_setCell_other _ _ _ _ (by intro e;cases e)).trans b8_4
   have d10_5:l.cell? (Xa wr.heap.size 5)=some (.string tg):=by rw [<- s];exact World.cell?_setCell_same _ _ _ b8_5
   have d10_6:l.cell? (Xa wr.heap.size 6)=some (.string nm):=by rw [<- s];exact (World.cell?_setCell_other _ _ _ _ (by intro e;cases e)).trans b8_6
   have d10_7:l.cell? (Xa wr.heap.size 7)=some (.string d):=by rw [<- s];exact (World.cell?_setCell_other _ _ _ _ (by intro e;cases e)).trans b8_7
   have e10_5:l.frozen? (Xa wr.heap.size 5)=false:=by rw [<- s];exact (World.frozen?_setCell ..).trans g8_5
   have e10_6:l.frozen? (Xa wr.heap.size 6)=false:=by rw [<- s];exact (World.frozen?_setCell ..).trans g8_6
   have e10_7:l.frozen? (Xa wr.heap.size 7)=false:=by rw [<- s];exact (World.frozen?_setCell ..).trans g8_7
   have aF:Hid (Xb wr l):=Qa (by rw [<- s];exact aS.out.setCell (Nat.le_refl _) _);have b3:wr.heap.size<l.heap.size:=World.block_lt_of_cell? _ _ d10_5;clear f;have f:(λw':World=>Xc w' wr.heap.size 5 (.string tg)/\Xc w' wr.heap.size 6 (.string nm)/\Xc w' wr.heap.size 7 (.string d)) l:=⟨d10_5,d10_6,d10_7⟩;clear s b8_0 b8_1 b8_2 b8_3 b8_4 b8_5 b8_6 b8_7 g8_5 g8_6 g8_7;try simp only [Xr]
   refine J0 11 ?_;apply JZ ?_ f ?_;rotate_left
   ·(intro w' hSw;(try obtain ⟨q0,M,N⟩:=hSw);simp only [Xq];go_simp;try (with_reducible rfl))
   simp only [Xq,Xr];refine Qq 12 ?_;simp only [Xq];go_simp;generalize t:l.setCell (Xa wr.heap.size 6) (.string nm)=m;have d12_0:m.cell? (Xa wr.heap.size 0)=some (Xi j):=by rw [<- t];exact (World.cell?_setCell_other _ _ _ _ (by intro e;cases e)).trans d10_0
   have d12_1:m.cell? (Xa wr.heap.size 1)=some (Xi id):=by rw [<- t];exact (World.cell?_setCell_other _ _ _ _ (by intro e;cases e)).trans d10_1
   have d12_2:m.cell? (Xa wr.heap.size 2)=some (Xi pa):=by rw [<- t];exact (World.cell?_setCell_other _ _ _ _ (by intro e;cases e)).trans d10_2
   have d12_3:m.cell? (Xa wr.heap.size 3)=some (Xi bf):=by rw [<- t];exact (World.cell?_setCell_other _ _ _ _ (by intro e;cases e)).trans d10_3
   have d12_4:m.cell? (Xa wr.heap.size 4)=some (Xi k):=by rw [<- t];exact (World.cell?_setCell_other _ _ _ _ (by intro e;cases e)).trans d10_4
   have d12_5:m.cell? (Xa wr.heap.size 5)=some (.string tg):=by rw [<- t];exact (World.cell?_setCell_other _ _ _ _ (by intro e;cases e)).trans d10_5
   have d12_6:m.cell? (Xa wr.heap.size 6)=some (.string nm):=by rw [<- t];exact World.cell?_setCell_same _ _ _ d10_6
   have d12_7:m.cell? (Xa wr.heap.size 7)=some (.string d):=by rw [<- t];exact (World.cell?_setCell_other _ _ _ _ (by intro e;cases e)).trans d10_7
   have e12_5:m.frozen? (Xa wr.heap.size 5)=false:=by rw [<- t];exact (World.frozen?_setCell ..).trans e10_5
   have e12_6:m.frozen? (Xa wr.heap.size 6)=false:=by rw [<- t];exact (World.frozen?_setCell ..).trans e10_6
   have e12_7:m.frozen? (Xa wr.heap.size 7)=false:=by rw [<- t];exact (World.frozen?_setCell ..).trans e10_7
   have aG:Hid (Xb wr m):=Qa (by rw [<- t];exact aF.out.setCell (Nat.le_refl _) _);have b4:wr.heap.size<m.heap.size:=World.block_lt_of_cell? _ _ d12_5;clear f;have f:(λw':World=>Xc w' wr.heap.size 5 (.string tg)/\Xc w' wr.heap.size 6 (.string nm)/\Xc w' wr.heap.size 7 (.string d)) m:=⟨d12_5,d12_6,d12_7⟩;clear t d10_0 d10_1 d10_2 d10_3 d10_4 d10_5 d10_6 d10_7 e10_5 e10_6 e10_7;try simp only [Xr]
   refine J0 13 ?_;apply JZ ?_ f ?_;rotate_left
   ·(intro w' hSw;(try obtain ⟨q0,M,N⟩:=hSw);simp only [Xq];go_simp;try (with_reducible rfl))
   simp only [Xq,Xr];refine Qq 14 ?_;simp only [Xq];go_simp;generalize v:m.setCell (Xa wr.heap.size 7) (.string d)=g;have d14_0:g.cell? (Xa wr.heap.size 0)=some (Xi j):=by rw [<- v];exact (World.cell?_setCell_other _ _ _ _ (by intro e;cases e)).trans d12_0
   have d14_1:g.cell? (Xa wr.heap.size 1)=some (Xi id):=by rw [<- v];exact (World.cell?_setCell_other _ _ _ _ (by intro e;cases e)).trans d12_1
   have d14_2:g.cell? (Xa wr.heap.size 2)=some (Xi pa):=by rw [<- v];exact (World.cell?_setCell_other _ _ _ _ (by intro e;cases e)).trans d12_2
   have d14_3:g.cell? (Xa wr.heap.size 3)=some (Xi bf):=by rw [<- v];exact (World.cell?_setCell_other _ _ _ _ (by intro e;cases e)).trans d12_3
   have d14_4:g.cell? (Xa wr.heap.size 4)=some (Xi k):=by rw [<- v];exact (World.cell?_setCell_other _ _ _ _ (by intro e;cases e)).trans d12_4
   have d14_5:g.cell? (Xa wr.heap.size 5)=some (.string tg):=by rw [<- v];exact (World.cell?_setCell_other _ _ _ _ (by intro e;cases e)).trans d12_5
   have d14_6:g.cell? (Xa wr.heap.size 6)=some (.string nm):=by rw [<- v];exact (World.cell?_setCell_other _ _ _ _ (by intro e;cases e)).trans d12_6
   have d14_7:g.cell? (Xa wr.heap.size 7)=some (.string d):=by rw [<- v];exact World.cell?_setCell_same _ _ _ d12_7
   have e14_5:g.frozen? (Xa wr.heap.size 5)=false:=by rw [<- v];exact (World.frozen?_setCell ..).trans e12_5
   have e14_6:g.frozen? (Xa wr.heap.size 6)=false:=by rw [<- v];exact (World.frozen?_setCell ..).trans e12_6
   have e14_7:g.frozen? (Xa wr.heap.size 7)=false:=by rw [<- v];exact (World.frozen?_setCell ..).trans e12_7
   have ad:Hid (Xb wr g):=Qa (by rw [<- v];exact aG.out.setCell (Nat.le_refl _) _);have A:wr.heap.size<g.heap.size:=World.block_lt_of_cell? _ _ d14_5;clear f;clear v d12_0 d12_1 d12_2 d12_3 d12_4 d12_5 d12_6 d12_7 e12_5 e12_6 e12_7;try simp only [Xr]
   refine Zk (by kernel_rfl) ?_ _;have X:=W.out;have V:WB<wr.heap.size:=X.lt;obtain ⟨G,H,aT⟩:=Qz X.row;subst aT;have ag:Xc g WB 0 (.slice G P.length H):=(Xh ad.out WB 0 V).trans X.c0;have ah:Xf g WB 0:=(Xj ad.out WB 0 V).trans X.f0;clear X;go_wp2_with fail;have f:(λw':World=>Xf w' WB 0/\Xc w' WB 0 (.slice G P.length H)/\Xc w' wr.heap.size 0 (Xi j)/\Xc w' wr.heap.size 1 (Xi id)/\Xc w' wr.heap.size 2 (Xi pa)/\Xc w' wr.heap.size 3 (Xi bf)/\Xc w' wr.heap.size 4 (Xi k)/\Xc w' wr.heap.size 5 (.string tg)/\Xc w' wr.heap.size 6 (.string nm)/\Xc w' wr.heap.size 7 (.string d)) g.drew:=⟨ah,ag,d14_0,d14_1,d14_2,d14_3,d14_4,d14_5,d14_6,d14_7⟩;refine Zm (S:=(λw':World=>w'.frozen? (Xa WB 0)=false/\w'.cell? (Xa WB 0)=some (.slice G P.length H)/\w'.cell? (Xa wr.heap.size 0)=some (Xi j)/\w'.cell? (Xa wr.heap.size 1)=some (Xi id)/\w'.cell? (Xa wr.heap.size 2)=some (Xi pa)/\w'.cell? (Xa wr.heap.size 3)=some (Xi bf)/\w'.cell? (Xa wr.heap.size 4)=some (Xi k)/\w'.cell? (Xa wr.heap.size 5)=some (.string tg)/\w'.cell? (Xa wr.heap.size 6)=some (.string nm)/\w'.cell? (Xa wr.heap.size 7)=some (.string d))) (by kernel_rfl) ?_;iterate 6
    apply Q0 ?_ f ?_;rotate_left
    ·(intro w' hSw;(try obtain ⟨q0,M,N,bj,bk,bl,bm,bn,bo,bp⟩:=hSw);simp only [Xq];go_simp;try (with_reducible rfl))
    simp only [Xq,Xr]
   refine Qq 6 ?_;simp only [Xq];go_simp;generalize Y:g.alloc (.cells #[Xi j,Xi id,Xi pa,Xi bf,Xi k,.string tg,.string nm,.string d] 60)=z;have y:=Xt Y;have b2:=X1 Y;have aj:∀ a,some ((Xa g.heap.size 0):Addr)=some a->∀ i u,[Xi j,Xi id,Xi pa,Xi bf,Xi k,.string tg,.string nm,.string d][i]?=some u->z.drew.cell? (a.add i)=some u:=by rw [<- Y];exact Z9 g #[Xi j,Xi id,Xi pa,Xi bf,Xi k,.string tg,.string nm,.string d] 60
   have O:Hid (Xb wr z.drew):=Qa ((ad.out.trans (y.mono (Nat.le_of_lt A))).drew);have d15_0:=(Xh y wr.heap.size 0 A).trans d14_0;have d15_1:=(Xh y wr.heap.size 1 A).trans d14_1;have d15_2:=(Xh y wr.heap.size 2 A).trans d14_2;have d15_3:=(Xh y wr.heap.size 3 A).trans d14_3;have d15_4:=(Xh y wr.heap.size 4 A).trans d14_4;have d15_5:=(Xh y wr.heap.size 5 A).trans d14_5;have d15_6:=(Xh y wr.heap.size 6 A).trans d14_6;have d15_7:=(Xh y wr.heap.size 7 A).trans d14_7;have ae:=(Xh y WB 0 (Nat.lt_trans V A)).trans ag;have af:Xf z WB 0:=(Xj y WB 0 (Nat.lt_trans V A)).trans ah;refine ⟨.inr ⟨af,ae⟩,?_⟩;have ai:=Qa (Zi W.out.row O.out);have aU:wr.heap.size<z.heap.size:=by omega
   clear Y y f ag ah;clear d14_0 d14_1 d14_2 d14_3 d14_4 d14_5 d14_6 d14_7;try simp only [Xr]
   refine Qq 7 ?_;simp only [Xq];refine Qcs z.drew _ _ 53 (by rfl) U 60 aW _ 8 88 Tryz.underlying53 aX aM aN aO rfl (.slice G P.length H) P.length _ (by rfl) ai.out (some (Xa g.heap.size 0)) 1 1 [Xi j,Xi id,Xi pa,Xi bf,Xi k,.string tg,.string nm,.string d] (by rfl) (by simp) rfl aj (by simp [Value.oneCell']) (by omega) (by omega) (by show U<=z.heap.size;omega) ?_;intro bq n ac a0;obtain ⟨K,R,rfl⟩:=Qz ac;have b5:z.heap.size<=n.heap.size:=a0.size;have a6:∀ b,Value.ownBlock (.slice G P.length H)=some b->b≠WB/\b<wr.heap.size:=λb e=>⟨W.out.apart b e,(W.out.row.lt b e).2⟩;have a1:∀ b,b<z.heap.size->Value.ownBlock (.slice G P.length H)≠some b->n.heap[b]?=z.heap[b]?:=λb hb ab=>a0.by.block b hb (λe=>ab e.symm);have a7:n.heap[WB]?=z.heap[WB]?:=a1 WB (by omega) (λe=>(a6 _ e).1 rfl);have I:n.heap[wr.heap.size]?=z.heap[wr.heap.size]?:=a1 _ aU (λe=>Nat.lt_irrefl _ (a6 _ e).2);have ar:=(Xk WB 0 a7).trans ae;have au:=(Xm WB 0 a7).trans af;have d16_0:Xc n wr.heap.size 0 (Xi j):=(World.cell?_of_block I).trans d15_0;have d16_1:Xc n wr.heap.size 1 (Xi id):=(World.cell?_of_block I).trans d15_1;have d16_2:Xc n wr.heap.size 2 (Xi pa):=(World.cell?_of_block I).trans d15_2;have d16_3:Xc n wr.heap.size 3 (Xi bf):=(World.cell?_of_block I).trans d15_3;have d16_4:Xc n wr.heap.size 4 (Xi k):=(World.cell?_of_block I).trans d15_4;have d16_5:Xc n wr.heap.size 5 (.string tg):=(World.cell?_of_block I).trans d15_5;have d16_6:Xc n wr.heap.size 6 (.string nm):=(World.cell?_of_block I).trans d15_6;have d16_7:Xc n wr.heap.size 7 (.string d):=(World.cell?_of_block I).trans d15_7;refine ⟨.inr ⟨au,ar,d16_0,d16_1,d16_2,d16_3,d16_4,d16_5,d16_6,d16_7⟩,?_⟩;clear d15_0 d15_1 d15_2 d15_3 d15_4 d15_5 d15_6 d15_7 I ae af aj ai;have aH:=Qa ac;have a2:=Qa a0;have aV:=Qa a6;have aI:=Qa a1;have av:=Qa a7;clear ac a0 a6 a1 a7;try simp only [Xr]
   refine Qq 8 ?_;simp only [Xq];go_simp;refine Qq 9 ?_;simp only [Xq];go_simp;refine Qq 10 ?_;simp only [Xq];go_simp;refine ⟨by kernel_rfl,?_⟩;clear d16_0 d16_1 d16_2 d16_3 d16_4 d16_5 d16_6 d16_7;refine Zk (by kernel_rfl) ?_ _;have aw:∀ b,Value.ownBlock (.slice K (P.length+1) R)=some b->Value.ownBlock (.slice G P.length H)=some b \/ z.heap.size<=b:=λb e=>by
    rcases a2.out with ⟨B,_⟩|⟨B,_⟩
    ·rw [e] at B;exact .inl B.symm
    rw [e] at B;have:=Option.some.inj B;exact .inr (by rw [this];exact Nat.le_refl _)
   have ax:∀ b,Value.ownBlock (.slice K (P.length+1) R)=some b->b≠WB:=λb e=>by
    rcases aw b e with B|B
    ·exact (aV.out b B).1
    omega
   have ak:Hid (∃ L,Q3 U (n.setCell (Xa WB 0) (.slice K (P.length+1) R)) WB L (P++[⟨j,id,pa,bf,k,tg,nm,d⟩]) last/\(∀ b,L.ownBlock=some b->Value.ownBlock (.slice G P.length H)=some b \/ wr.heap.size<=b)/\Qx (λb=>b=WB \/ some b=Value.ownBlock (.slice G P.length H)) wr (n.setCell (Xa WB 0) (.slice K (P.length+1) R))):=by
    refine Qa ⟨.slice K (P.length+1) R,⟨World.cell?_setCell_same _ _ _ ar,(World.frozen?_setCell ..).trans au,?_,?_,?_,ax,?_⟩,?_,?_⟩
    ·exact (World.cell?_setCell_other _ _ _ _ (λe=>by cases e)).trans ((World.cell?_of_block av.out).trans ((Xh O.out WB 1 V).trans W.out.c1))
    ·exact (World.frozen?_setCell ..).trans ((World.frozen?_of_block av.out).trans ((Xj O.out WB 1 V).trans W.out.f1))
    ·rw [Qoi,length_append];exact Qk7 aH.out (.inr λe=>ax WB e rfl)
    ·rw [ZL];omega
    ·intro b e;rcases aw b e with B|B
     ·exact .inl B
     exact .inr (by omega)
    refine ⟨a2.out.by.os.trans O.out.os,a2.out.by.tape.trans O.out.tape,a2.out.by.output.trans O.out.output,by rw [ZL];omega,λb hb ab=>?_⟩;rw [Below.heap_setCell _ _ _ _ (λe=>ab (.inl e)),aI.out b (by omega) λe=>ab (.inr e.symm)];exact O.out.block b hb
   generalize n.setCell (Xa WB 0) (.slice K (P.length+1) R)=b6 at ak;go_wp2_with fail;exact ⟨.inr ⟨rfl,ak⟩,by decide⟩
  go_wp2;refine bodyPost_end (results_none rfl _ _ _) rfl ?_;exact ⟨rfl,aY.out⟩
end Go.Proofs.YtobgcaemnpkbmaaGreatDoor
