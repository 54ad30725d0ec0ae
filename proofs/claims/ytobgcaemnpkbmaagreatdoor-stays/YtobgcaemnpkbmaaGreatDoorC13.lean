import Derived.Test.YtobgcaemnpkbmaaGreatDoorC10
namespace Go.Proofs.YtobgcaemnpkbmaaGreatDoor
set_option maxRecDepth 100000
set_option maxHeartbeats 8000000
open Go.RowKit List
theorem Qkf (l:List (ByteArray × ByteArray)) (k:Nat) (v:ByteArray) (b:k<l.length):(QM l).set (k*2+1) (.string v)=QM (l.set k (l[k].1,v)):=by induction l generalizing k with| nil=>exact absurd b (Nat.not_lt_zero _)| cons a l ih =>have e:QM (a::l)=.string a.1::.string a.2::QM l:=rfl;cases k with| zero=>rfl| succ k =>rw [e,show (k+1)*2+1=k*2+1+1+1 by omega,set_cons_succ,set_cons_succ,ih k (by simpa using b)];rfl
theorem QjK {l:List (ByteArray × ByteArray)} {nm vl:ByteArray} (d:Zw l) (a:Zc l nm=true) (b:Qs l nm<l.length):l.set (Qs l nm) (l[Qs l nm].1,vl)=ZZ l nm vl:=by
 have c:l[Qs l nm].1=nm:=by unfold Zc at a;rw [decide_eq_true b,Bool.true_and,Qcr b] at a;exact Qit a
 have f:JA l nm=1:=by unfold JA;rw [a];rfl
 rw [Qfa d,f,c,set_eq_take_append_cons_drop,if_pos b];simp
theorem QqU {l:List (ByteArray × ByteArray)} {nm vl:ByteArray} (b:Zw l) (c:Zc l nm=false) : (QM (l.take (Qs l nm)++[(nm,⟨#[]⟩)]++l.drop (Qs l nm))).set (Qs l nm*2+1) (.string vl)=QM (ZZ l nm vl):=by
 have h:=Qdn l nm;have d:JA l nm=0:=by unfold JA;rw [c];rfl
 have a:(l.take (Qs l nm)).length=Qs l nm:=by rw [length_take];omega
 have f:Qs l nm<(l.take (Qs l nm)++[(nm,(⟨#[]⟩:ByteArray))]++l.drop (Qs l nm)).length:=by rw [length_append,length_append,a];simp;omega
 rw [Qkf _ _ _ f,Qfa b,d];congr 1
 have g:(l.take (Qs l nm)++[(nm,(⟨#[]⟩:ByteArray))]++l.drop (Qs l nm))[Qs l nm]=(nm,⟨#[]⟩):=by rw [getElem_append_left (by rw [length_append,a];simp),getElem_append_right (by omega)];simp [a]
 rw [g,set_append_left _ _ (by rw [length_append,a];simp),set_append_right _ _ (by omega),a,Nat.sub_self];rfl
theorem Qrd (p:Qo) (nb:Int->Nat) (c:Nat) (r:Option Nat) (w:World) (q:Nat) (R:List RN) (last:Int) (h:Qi p nb c r w q R last) (d id pa bf f:Int) (tg nm g:ByteArray) (j:Qg id) (k:∀ n,n ∈ R->n.id≠id) : Xl 105 #[Xp q,.agg #[Xi d,Xi id,Xi pa,Xi bf,Xi f,.string tg,.string nm,.string g]] w λe w'=>e=.returned (.bool false)/\Xb w w':=by have i:=Qf h.blk 1 (.map (some c)) rfl;have l:=QN h.blk;have m:=Qdp h j k;clear h;go_enter Tryz.func105,Tryz.ntmps105;go_wp2_with fail;generalize b:w.alloc (.cells #[Xi d,Xi id,Xi pa,Xi bf,Xi f,.string tg,.string nm,.string g] 60)=s;obtain ⟨a,t,-,u,-,-,-,-,-,-⟩:=Qa6 b;have v:=(Xh a q 1 l).trans i;have lk:=λn=>m.out (s.drewN n) (Ql a n);have o:=Qa a;clear b a i;go_big_quiet (fail);go_wp2;go_ret;exact ⟨rfl,Ql o.out _⟩
theorem Qsb (x:Qo) (nb:Int->Nat) (i:Nat) (y:Option Nat) (w:World) (q:Nat) (R:List RN) (last:Int) (h:Qi x nb i y w q R last) (j id pa bf l:Int) (tg nm d:ByteArray) (k:Nat) (f:k<R.length) (s:Qg R[k].id) (p:R[k].id=id) (r:R[k].tag.toList.isEmpty=true) : Xl 105 #[Xp q,.agg #[Xi j,Xi id,Xi pa,Xi bf,Xi l,.string tg,.string nm,.string d]] w λe w'=>e=.returned (.bool false)/\Xb w w':=by
 subst p;obtain ⟨B,C,z⟩:=h.node _ (getElem_mem f);have m:=Qf h.blk 1 (.map (some i)) rfl;have t:=QN h.blk;have u:=ZU h f s;have v:=Qaw h f (b:=false) (by rw [r];rfl);clear h z;go_enter Tryz.func105,Tryz.ntmps105;go_wp2_with fail;generalize a:w.alloc (.cells #[Xi j,Xi R[k].id,Xi pa,Xi bf,Xi l,.string tg,.string nm,.string d] 60)=o;have c:=Xt a;have A:w.heap.size<o.heap.size:=by rw [<- a];simp
 have D:=Xz a 1 (Xi R[k].id) rfl;have E:=Xz a 6 (.string nm) rfl;have F:=Xz a 7 (.string d) rfl;have G:=(Xh c q 1 t).trans m;have lk:=λn=>u.out (o.drewN n) (Ql c n);have g:=Qa c;clear a c m;go_big_quiet (fail);go_wp2_with (first|(go_at_call 140;refine (Qb v _ (Ql (Qb g) _)).mono ?_;rintro e w1 ⟨rfl,rfl⟩));go_ret;exact ⟨rfl,Ql g.out _⟩
theorem QpL (A:Qo) (nb:Int->Nat) (i:Nat) (B:Option Nat) (w:World) (q:Nat) (R:List RN) (last:Int) (h:Qi A nb i B w q R last) (j id pa bf l:Int) (tg nm d:ByteArray) (k:Nat) (f:k<R.length) (s:Qg R[k].id) (p:R[k].id=id) (r:R[k].tag.toList.isEmpty=false) (t:nm.size<=maxLen) (u:QR nm=false) : Xl 105 #[Xp q,.agg #[Xi j,Xi id,Xi pa,Xi bf,Xi l,.string tg,.string nm,.string d]] w λe w'=>e=.returned (.bool false)/\Xb w w':=by
 subst p;obtain ⟨E,F,C⟩:=h.node _ (getElem_mem f);have m:=Qf h.blk 1 (.map (some i)) rfl;have v:=QN h.blk;have x:=ZU h f s;have y:=Qaw h f (b:=true) (by rw [r];rfl);have z:Hid (∀ w1,Xl 144 #[.string nm] w1 λe w'=>e=.returned (.bool false)/\w1=w'):=Qa λw1=>(QaT nm _ u t w1).mono λ_ _ h=>⟨h.1,h.2.symm⟩;clear h C;go_enter Tryz.func105,Tryz.ntmps105;go_wp2_with fail;generalize a:w.alloc (.cells #[Xi j,Xi R[k].id,Xi pa,Xi bf,Xi l,.string tg,.string nm,.string d] 60)=o;have c:=Xt a;have D:w.heap.size<o.heap.size:=by rw [<- a];simp
 have G:=Xz a 1 (Xi R[k].id) rfl;have H:=Xz a 6 (.string nm) rfl;have I:=Xz a 7 (.string d) rfl;have J:=(Xh c q 1 v).trans m;have lk:=λn=>x.out (o.drewN n) (Ql c n);have g:=Qa c;clear a c m;go_big_quiet (fail);go_wp2_with (first|(go_at_call 140;refine (Qb y _ (Ql (Qb g) _)).mono ?_;rintro e w1 ⟨rfl,rfl⟩)|(go_at_call 144;refine (Qb z _).mono ?_;rintro e w1 ⟨rfl,rfl⟩));go_ret;exact ⟨rfl,Ql g.out _⟩
theorem QoL (D:Qo) (nb:Int->Nat) (i:Nat) (E:Option Nat) (w:World) (q:Nat) (R:List RN) (last:Int) (h:Qi D nb i E w q R last) (j id pa bf l:Int) (tg nm a:ByteArray) (k:Nat) (f:k<R.length) (s:Qg R[k].id) (p:R[k].id=id) (r:R[k].tag.toList.isEmpty=false) (t:nm.size<=maxLen) (u:QR nm=true) (v:a.size<=maxLen) (x:Zx a=false) : Xl 105 #[Xp q,.agg #[Xi j,Xi id,Xi pa,Xi bf,Xi l,.string tg,.string nm,.string a]] w λe w'=>e=.returned (.bool false)/\Xb w w':=by
 subst p;obtain ⟨H,I,F⟩:=h.node _ (getElem_mem f);have m:=Qf h.blk 1 (.map (some i)) rfl;have y:=QN h.blk;have z:=ZU h f s;have A:=Qaw h f (b:=true) (by rw [r];rfl);have B:Hid (∀ w1,Xl 144 #[.string nm] w1 λe w'=>e=.returned (.bool true)/\w1=w'):=Qa λw1=>(QaT nm _ u t w1).mono λ_ _ h=>⟨h.1,h.2.symm⟩;have C:Hid (∀ w1,Xl 145 #[.string a] w1 λe w'=>e=.returned (.bool false)/\w1=w'):=Qa λw1=>(QbX a _ x v w1).mono λ_ _ h=>⟨h.1,h.2.symm⟩;clear h F;go_enter Tryz.func105,Tryz.ntmps105;go_wp2_with fail;generalize c:w.alloc (.cells #[Xi j,Xi R[k].id,Xi pa,Xi bf,Xi l,.string tg,.string nm,.string a] 60)=o;have d:=Xt c;have G:w.heap.size<o.heap.size:=by rw [<- c];simp
 have J:=Xz c 1 (Xi R[k].id) rfl;have K:=Xz c 6 (.string nm) rfl;have L:=Xz c 7 (.string a) rfl;have M:=(Xh d q 1 y).trans m;have lk:=λn=>z.out (o.drewN n) (Ql d n);have g:=Qa d;clear c d m;go_big_quiet (fail);go_wp2_with (first|(go_at_call 140;refine (Qb A _ (Ql (Qb g) _)).mono ?_;rintro e w1 ⟨rfl,rfl⟩)|(go_at_call 144;refine (Qb B _).mono ?_;rintro e w1 ⟨rfl,rfl⟩)|(go_at_call 145;refine (Qb C _).mono ?_;rintro e w1 ⟨rfl,rfl⟩));go_ret;exact ⟨rfl,Ql g.out _⟩
theorem Qof (s:Qo) (nb:Int->Nat) (t:Nat) (P:Option Nat) (w:World) (q:Nat) (R:List RN) (last:Int) (h:Qi s nb t P w q R last) (u id pa bf v:Int) (tg nm a:ByteArray) (k:Nat) (o:k<R.length) (C:Qg R[k].id) (z:R[k].id=id) (A:R[k].tag.toList.isEmpty=false) (D:nm.size<=maxLen) (E:QR nm=true) (F:a.size<=maxLen) (G:Zx a=true) (B:Zc R[k].ats nm=false) (X:5<=R[k].ats.length) : Xl 105 #[Xp q,.agg #[Xi u,Xi id,Xi pa,Xi bf,Xi v,.string tg,.string nm,.string a]] w λe w'=>e=.returned (.bool false)/\Xb w w':=by
 subst z;obtain ⟨Y,a0,g⟩:=h.node _ (getElem_mem o);have x:=Qf h.blk 1 (.map (some t)) rfl;have H:=QN h.blk;have I:=ZU h o C;have J:=Qaw h o (b:=true) (by rw [A];rfl);have K:Hid (∀ w1,Xl 144 #[.string nm] w1 λe w'=>e=.returned (.bool true)/\w1=w'):=Qa λw1=>(QaT nm _ E D w1).mono λ_ _ h=>⟨h.1,h.2.symm⟩;have L:Hid (∀ w1,Xl 145 #[.string a] w1 λe w'=>e=.returned (.bool true)/\w1=w'):=Qa λw1=>(QbX a _ G F w1).mono λ_ _ h=>⟨h.1,h.2.symm⟩;have M:Hid (∀ w1,Xb w w1->Xl 146 #[Xp (nb R[k].id),.string nm] w1 λe w'=>e=.returned (.tuple #[Xi (Qs R[k].ats nm),.bool false])/\Xb w1 w'):=Qa λw1 hb=>by have:=Qes (g.kept (R':=R) (w':=w1) (ρ':=s) (λb j e=>hb.block b (h.low b (by rw [e];rfl))) (λ_ _=>rfl) rfl) nm;rw [B] at this;exact this
 obtain ⟨ao,c,rfl⟩:=Qz g.arow;have S:=Qf g.blk 4 (.slice ao R[k].ats.length c) rfl;have N:=g.lt;have V:(5:Int)<=(R[k].ats.length:Int):=by omega
 clear h g;go_enter Tryz.func105,Tryz.ntmps105;go_wp2_with fail;generalize d:w.alloc (.cells #[Xi u,Xi R[k].id,Xi pa,Xi bf,Xi v,.string tg,.string nm,.string a] 60)=y;have i:=Xt d;have m:w.heap.size<y.heap.size:=by rw [<- d];simp
 have a1:=Xz d 1 (Xi R[k].id) rfl;have T:=Xz d 6 (.string nm) rfl;have U:=Xz d 7 (.string a) rfl;have a2:=(Xh i q 1 H).trans x;have lk:=λn=>I.out (y.drewN n) (Ql i n);have l:=Qa i;clear d i x;go_big_quiet (fail);go_wp2_with (first|(go_at_call 140;refine (Qb J _ (Ql (Qb l) _)).mono ?_;rintro e w1 ⟨rfl,rfl⟩)|(go_at_call 144;refine (Qb K _).mono ?_;rintro e w1 ⟨rfl,rfl⟩)|(go_at_call 145;refine (Qb L _).mono ?_;rintro e w1 ⟨rfl,rfl⟩)|(go_at_call 146;refine (Qb M _ (Ql (Qb l) _)).mono ?_;rintro e w1 ⟨rfl,f⟩;have a3:=(Xh f w.heap.size 6 m).trans T;have a4:=(Xh f w.heap.size 7 m).trans U;have O:=f.size;have W:w.heap.size<w1.heap.size:=Nat.lt_of_lt_of_le m O;have r:=Qa ((Ql (Qb l) _).trans (f.mono (Qb l).size));have a5:=((Qb r).cell (p:=(Xa (nb R[k].id) 4)) N).trans S;clear f));go_ret;exact ⟨rfl,r.out⟩
theorem QtQ (o:Qo) (nb:Int->Nat) (D:Nat) (K:Option Nat) (w:World) (q:Nat) (R:List RN) (last:Int) (h:Qi o nb D K w q R last) (L id pa bf M:Int) (tg nm a:ByteArray) (k:Nat) (z:k<R.length) (V:Qg R[k].id) (S:R[k].id=id) (aa:Qp R) (T:R[k].tag.toList.isEmpty=false) (G:nm.size<=maxLen) (W:QR nm=true) (H:a.size<=maxLen) (X:Zx a=true) (Y:a.size<=281474976710656) (l:Zc R[k].ats nm=true) : Xl 105 #[Xp q,.agg #[Xi L,Xi id,Xi pa,Xi bf,Xi M,.string tg,.string nm,.string a]] w λe w'=>e=.returned (.bool true)/\∃ ρ',QV o ρ' w w'/\Qi ρ' nb D K w' q (R.set k { R[k] with ats:=ZZ R[k].ats nm a }) last:=by
 subst S;obtain ⟨ab,ac,f⟩:=h.node _ (getElem_mem z);have N:=Qf h.blk 1 (.map (some D)) rfl;have a0:=QN h.blk;have a1:=ZU h z V;have a2:=Qaw h z (b:=true) (by rw [T];rfl);have a3:Hid (∀ w1,Xl 144 #[.string nm] w1 λe w'=>e=.returned (.bool true)/\w1=w'):=Qa λw1=>(QaT nm _ W G w1).mono λ_ _ h=>⟨h.1,h.2.symm⟩;have a4:Hid (∀ w1,Xl 145 #[.string a] w1 λe w'=>e=.returned (.bool true)/\w1=w'):=Qa λw1=>(QbX a _ X H w1).mono λ_ _ h=>⟨h.1,h.2.symm⟩;have a5:Hid (∀ w1,Xb w w1->Xl 146 #[Xp (nb R[k].id),.string nm] w1 λe w'=>e=.returned (.tuple #[Xi (Qs R[k].ats nm),.bool true])/\Xb w1 w'):=Qa λw1 hb=>by have:=Qes (f.kept (R':=R) (w':=w1) (ρ':=o) (λb j e=>hb.block b (h.low b (by rw [e];rfl))) (λ_ _=>rfl) rfl) nm;rw [l] at this;exact this
 have A:Qs R[k].ats nm<R[k].ats.length:=by unfold Zc at l;simp only [Bool.and_eq_true,decide_eq_true_eq] at l;exact l.1
 obtain ⟨g,c,rfl⟩:∃ g c,ab=Xe g R[k].ats.length c:=by
  rcases f.arow.2 with ⟨_,e⟩|⟨g,cap,aq,e,_⟩
  ·omega
  exact ⟨g,cap,e⟩
 have ap:=f.few;have ad:=Qf f.blk 4 (Xe g R[k].ats.length c) rfl;have a6:=f.lt;have a7:g≠nb R[k].id:=λe=>by have:=f.arole g rfl;rw [e,f.role] at this;have:=(Prod.mk.inj (Option.some.inj this)).2;omega
 have I:g<w.heap.size:=(f.arow.lt g rfl).2;obtain ⟨O,ae⟩:∃ O,w.cell? (Xa g (Qs R[k].ats nm*2+1))=some O:=by rw [f.arow.cellAt _ (by omega)];exact ⟨_,getElem?_eq_getElem (by rw [QkM];omega)⟩
 have af:=f.arow.frozenAt (Qs R[k].ats nm*2+1);have a8:Hid (∀ w1,Xl 94 #[.string a] w1 λe w'=>e=.returned (.string a)/\Xb w1 w'):=Qa λw1=>Qcq a w1 Y;have E:=Qa h;have d:=Qa f;have ar:(0:Int)<=(Qs R[k].ats nm:Int):=by omega
 have au:(Qs R[k].ats nm:Int)<(R[k].ats.length:Int):=by omega
 clear h f;go_enter Tryz.func105,Tryz.ntmps105;go_wp2_with fail;generalize m:w.alloc (.cells #[Xi L,Xi R[k].id,Xi pa,Xi bf,Xi M,.string tg,.string nm,.string a] 60)=P;have v:=Xt m;have C:w.heap.size<P.heap.size:=by rw [<- m];simp
 have ay:=Xz m 1 (Xi R[k].id) rfl;have ag:=Xz m 6 (.string nm) rfl;have ah:=Xz m 7 (.string a) rfl;have az:=(Xh v q 1 a0).trans N;have lk:=λn=>a1.out (P.drewN n) (Ql v n);have y:=Qa v;clear m v N;go_big_quiet (fail);go_wp2_with (first|(go_at_call 140;refine (Qb a2 _ (Ql (Qb y) _)).mono ?_;rintro e w1 ⟨rfl,rfl⟩)|(go_at_call 144;refine (Qb a3 _).mono ?_;rintro e w1 ⟨rfl,rfl⟩)|(go_at_call 145;refine (Qb a4 _).mono ?_;rintro e w1 ⟨rfl,rfl⟩)|(go_at_call 146;refine (Qb a5 _ (Ql (Qb y) _)).mono ?_;rintro e w1 ⟨rfl,s⟩;have ai:=(Xh s w.heap.size 6 C).trans ag;have aA:=(Xh s w.heap.size 7 C).trans ah;have a9:=s.size;have av:w.heap.size<w1.heap.size:=Nat.lt_of_lt_of_le C a9;have t:=Qa ((Ql (Qb y) _).trans (s.mono (Qb y).size));have aB:=((Qb t).cell (p:=(Xa (nb R[k].id) 4)) a6).trans ad;clear s));have aw:nb R[k].id<w1.heap.size:=by omega
 have ax:g<w1.heap.size:=by omega
 have pv:=(Xh t.out g (Qs R[k].ats nm*2+1) I).trans ae;have aC:=(Xj t.out g (Qs R[k].ats nm*2+1) I).trans af;have aj:nb R[k].id≠g:=λe=>a7 e.symm;have ak:w.heap.size≠g:=by omega
 have aD:g≠w.heap.size:=by omega
 clear ai
 go_region_held3 (λw'=>w'.frozen? (Xa g (Qs R[k].ats nm*2+1))=false/\w'.cell? (Xa (nb R[k].id) 4)=some (Xe g R[k].ats.length c)/\w'.cell? (Xa w.heap.size 7)=some (.string a))
   (first
     | go_keep
     | (go_split_ands
        refine ⟨?_,?_,?_⟩
        · (rw [u.frozen (by simp;omega)];assumption)
        · (rw [u.cell (by simp;omega)];assumption)
        · (rw [u.cell (by simp;omega)];assumption))
     | (go_split_ands
        refine ⟨?_,?_,?_⟩
        · (rw [World.frozen?_setCell];assumption)
        · (first|(rw [World.cell?_of_block (Below.heap_setCell _ _ _ _ aj)];assumption)|go_keep)
        · (first|(rw [World.cell?_of_block (Below.heap_setCell _ _ _ _ ak)];assumption)|go_keep)))
   ((go_at_call 94;refine (Qb a8 _).mono ?_;rintro e w2 ⟨rfl,u⟩;have aE:=(Xh u g (Qs R[k].ats nm*2+1) (by (try simp);omega)).trans pv))
 go_wp2;go_ret;have i:=Qa (t.out.trans (((Below.refl w1.heap.size w1).drew.trans u).mono t.out.size));refine ⟨rfl,o,⟨⟨i.out.os,i.out.tape,i.out.output,by rw [ZL];exact i.out.size,λb hb al=>?_⟩,λ_ _=>rfl,λ_ h=>.inl h⟩,?_⟩
 ·exact (Below.heap_setCell _ _ _ _ (λe=>al (by rw [e];show (o g).isSome=true;rw [d.out.arole g rfl];rfl))).trans (i.out.block b hb)
 have B:∀ b r,o b=some r->r≠(R[k].id,1)->(w2.setCell (Xa g (Qs R[k].ats nm*2+1)) (.string a)).heap[b]?=w.heap[b]?:=λb r e F=>by refine (Below.heap_setCell _ _ _ _ (λx=>F ?_)).trans (i.out.block b (E.out.low b (by rw [e];rfl)));have x:b=g:=x;rw [x,d.out.arole g rfl] at e;exact (Option.some.inj e).symm
 have J:=((Zi d.out.arow i.out).stored (Qs R[k].ats nm*2+1) (.string a)).1;rw [Qkf _ _ _ A,QjK d.out.rise l A] at J;have U:(ZZ R[k].ats nm a).length=R[k].ats.length:=by rw [<- QjK d.out.rise l A,length_set]
 refine Qi.put (n':={ R[k] with ats:=ZZ R[k].ats nm a }) (av':=Xe g R[k].ats.length c) (kv':=ac) E.out aa z rfl rfl (λ_ _=>rfl) (λb e=>by rw [ZL];exact Nat.lt_of_lt_of_le (E.out.low b e) i.out.size) (λb r e F=>B b r e (λx=>F (by rw [x]))) ⟨?_,d.out.role,?_,d.out.arole,?_,d.out.krole,?_,QfD d.out.rise,d.out.tag,d.out.text,λx ao=>(QfK ao).elim (d.out.size x) (λe=>by rw [e];exact ⟨G,H⟩)⟩
 ·exact (B _ _ d.out.role (λx=>by have:=(Prod.mk.inj x).2;omega)).trans d.out.blk
 ·show World.ownsRow _ _ _ _ _ (ZZ R[k].ats nm a).length _;rw [U];exact J
 ·exact QT d.out.krow λb e=>B b _ (d.out.krole b e) (λx=>by have:=(Prod.mk.inj x).2;omega)
 show (ZZ R[k].ats nm a).length<=5;omega
theorem Qsq (l:Qo) (nb:Int->Nat) (a8:Nat) (aE:Option Nat) (w:World) (q:Nat) (R:List RN) (last:Int) (h:Qi l nb a8 aE w q R last) (aF id pa bf aG:Int) (tg nm a:ByteArray) (k:Nat) (Y:k<R.length) (b1:Qg R[k].id) (aW:R[k].id=id) (bm:Qp R) (aX:R[k].tag.toList.isEmpty=false) (av:nm.size<=maxLen) (b2:QR nm=true) (aw:a.size<=maxLen) (b3:Zx a=true) (b4:a.size<=281474976710656) (b5:nm.size<=281474976710656) (ap:Zc R[k].ats nm=false) (bN:R[k].ats.length<5) : Xl 105 #[Xp q,.agg #[Xi aF,Xi id,Xi pa,Xi bf,Xi aG,.string tg,.string nm,.string a]] w λe w'=>e=.returned (.bool true)/\∃ ρ',QV l ρ' w w'/\Qi ρ' nb a8 aE w' q (R.set k { R[k] with ats:=ZZ R[k].ats nm a }) last:=by
 subst aW;obtain ⟨bO,aH,m⟩:=h.node _ (getElem_mem Y);have aI:=Qf h.blk 1 (.map (some a8)) rfl;have b6:=QN h.blk;have b7:=ZU h Y b1;have b8:=Qaw h Y (b:=true) (by rw [aX];rfl);have b9:Hid (∀ w1,Xl 144 #[.string nm] w1 λe w'=>e=.returned (.bool true)/\w1=w'):=Qa λw1=>(QaT nm _ b2 av w1).mono λ_ _ h=>⟨h.1,h.2.symm⟩;have ba:Hid (∀ w1,Xl 145 #[.string a] w1 λe w'=>e=.returned (.bool true)/\w1=w'):=Qa λw1=>(QbX a _ b3 aw w1).mono λ_ _ h=>⟨h.1,h.2.symm⟩;have bb:Hid (∀ w1,Xb w w1->Xl 146 #[Xp (nb R[k].id),.string nm] w1 λe w'=>e=.returned (.tuple #[Xi (Qs R[k].ats nm),.bool false])/\Xb w1 w'):=Qa λw1 hb=>by have:=Qes (m.kept (R':=R) (w':=w1) (ρ':=l) (λb j e=>hb.block b (h.low b (by rw [e];rfl))) (λ_ _=>rfl) rfl) nm;rw [ap] at this;exact this
 obtain ⟨ao,c,rfl⟩:=Qz m.arow;have bB:=m.few;have bn:=Qf m.blk 4 (.slice ao R[k].ats.length c) rfl;have bo:=Jp m.blk 4;have a1:=m.lt;have bC:¬ (5:Int)<=(R[k].ats.length:Int):=by omega
 have bc:Hid (∀ w1,Xl 94 #[.string nm] w1 λe w'=>e=.returned (.string nm)/\Xb w1 w'):=Qa λw1=>Qcq nm w1 b5;have bd:Hid (∀ w1,Xl 94 #[.string a] w1 λe w'=>e=.returned (.string a)/\Xb w1 w'):=Qa λw1=>Qcq a w1 b4;have L:Hid (Value.ownBlock (.slice ao R[k].ats.length c)≠some (nb R[k].id)):=Qa λe=>by have:=m.arole _ e;rw [m.role] at this;have:=(Prod.mk.inj (Option.some.inj this)).2;omega
 have M:Hid (∀ b,Value.ownBlock (.slice ao R[k].ats.length c)=some b->b<w.heap.size):=Qa λb e=>(m.arow.lt b e).2;have aY:Hid (∀ D,Xb w D->∀ I,D.heap[I]?=some (.cells #[.string nm,Xo] 96 (0,0))->w.heap.size<=I->Xl 147 #[.slice ao R[k].ats.length c,Xi (Qs R[k].ats nm),Xe I 1 1] D (QdF D (.slice ao R[k].ats.length c) R[k].ats.length (QM (R[k].ats.take (Qs R[k].ats nm)++[(nm,⟨#[]⟩)]++R[k].ats.drop (Qs R[k].ats nm))))):=by refine Qa λD hb I a2 bD=>?_;have:=Qny (.slice ao R[k].ats.length c) R[k].ats.length (Qs R[k].ats nm) I (QM R[k].ats) [.string nm,Xo] D (Zi m.arow hb) (Qdn _ _) (by omega) (QgN _) rfl (by simp [Value.oneCell']) a2 (λe=>by have:=(m.arow.lt _ e).2;omega);rw [QfG,QfG,Qms,QlZ];exact this
 have a0:=Qa h;have d:=Qa m;clear h m;go_enter Tryz.func105,Tryz.ntmps105;go_wp2_with fail;generalize z:w.alloc (.cells #[Xi aF,Xi R[k].id,Xi pa,Xi bf,Xi aG,.string tg,.string nm,.string a] 60)=aJ;have O:=Xt z;have a3:w.heap.size<aJ.heap.size:=by rw [<- z];simp
 have bP:=Xz z 1 (Xi R[k].id) rfl;have bp:=Xz z 6 (.string nm) rfl;have bq:=Xz z 7 (.string a) rfl;have bQ:=(Xh O q 1 b6).trans aI;have lk:=λn=>b7.out (aJ.drewN n) (Ql O n);have P:=Qa O;clear z O aI;go_big_quiet (fail);go_wp2_with (first|(go_at_call 140;refine (Qb b8 _ (Ql (Qb P) _)).mono ?_;rintro e w1 ⟨rfl,rfl⟩)|(go_at_call 144;refine (Qb b9 _).mono ?_;rintro e w1 ⟨rfl,rfl⟩)|(go_at_call 145;refine (Qb ba _).mono ?_;rintro e w1 ⟨rfl,rfl⟩)|(go_at_call 146;refine (Qb bb _ (Ql (Qb P) _)).mono ?_;rintro e w1 ⟨rfl,G⟩;have a9:=(Xh G w.heap.size 6 a3).trans bp;have aK:=(Xh G w.heap.size 7 a3).trans bq;have bg:=G.size;have ax:w.heap.size<w1.heap.size:=Nat.lt_of_lt_of_le a3 bg;have T:=Qa ((Ql (Qb P) _).trans (G.mono (Qb P).size));have aa:=((Qb T).cell (p:=(Xa (nb R[k].id) 4)) a1).trans bn;clear G));have ay:nb R[k].id<w1.heap.size:=by omega
 have ab:=(Xj T.out (nb R[k].id) 4 a1).trans bo;have br:nb R[k].id≠w.heap.size:=by omega
 have az:(λw'=>Xf w' (nb R[k].id) 4/\Xc w' (nb R[k].id) 4 (.slice ao R[k].ats.length c)/\Xc w' w.heap.size 6 (.string nm)) w1.drew:=⟨ab,aa,a9⟩;refine Zm (S:=(λw'=>w'.frozen? (Xa (nb R[k].id) 4)=false/\w'.cell? (Xa (nb R[k].id) 4)=some (.slice ao R[k].ats.length c)/\w'.cell? (Xa w.heap.size 6)=some (.string nm))) (by kernel_rfl) ?_;iterate 8
  apply Q0 ?_ az ?_;rotate_left
  ·(intro w' hSw;(try dsimp only at hSw);simp only [Xq];go_simp;try (with_reducible rfl))
  simp only [Xq,Xr]
 refine Qq 8 ?_;simp only [Xq];go_simp;refine (Qb bc _).mono ?_;rintro e w2 ⟨rfl,y⟩;have bR:w1.heap.size<=w2.heap.size:=y.size;have aA:=Qa (T.out.trans (((Below.refl w1.heap.size w1).drew.trans y).mono T.out.size));have ac:=(Xh y (nb R[k].id) 4 ay).trans aa;have ad:=(Xj y (nb R[k].id) 4 ay).trans ab;have ae:=(Xh y w.heap.size 6 ax).trans a9;have aL:=(Xh y w.heap.size 7 ax).trans aK;refine ⟨.inr ⟨ad,ac,ae⟩,?_⟩;clear y az aa ab a9 aK;try simp only [Xr]
 refine Qq 9 ?_;simp only [Xq];go_simp;refine Qq 10 ?_;simp only [Xq];go_simp;generalize U:w2.alloc (.cells #[.string nm,Xo] 96)=t;have a2:t.heap[w2.heap.size]?=some (.cells #[.string nm,Xo] 96 (0,0)):=by rw [<- U];exact heap_alloc_new w2 _
 have A:=Xt U;have af:=X1 U;have aB:nb R[k].id<w2.heap.size:=by omega
 have aC:w.heap.size<w2.heap.size:=by omega
 have ag:=(Xh A (nb R[k].id) 4 aB).trans ac;have ah:=(Xj A (nb R[k].id) 4 aB).trans ad;have ai:=(Xh A w.heap.size 6 aC).trans ae;have aM:=(Xh A w.heap.size 7 aC).trans aL;have B:=Qa (aA.out.trans (A.mono aA.out.size));have bs:=Qa af;have bE:w2.heap.size<t.heap.size:=by omega
 refine ⟨.inr ⟨ah,ag,ai⟩,?_⟩;clear U A af ac ad ae aL;refine Qq 11 ?_;simp only [Xq];go_simp;refine (aY.out t B.out w2.heap.size a2 (by omega)).mono ?_;rintro e J ⟨bt,rfl,N,V,aN⟩;obtain ⟨g,u,rfl⟩:∃ g u,bt=Xe g (R[k].ats.length+1) u:=by
  rcases N.2 with ⟨_,e⟩|⟨g,cap,bF,e,_⟩
  ·omega
  exact ⟨g,cap,e⟩
 have bS:t.heap.size<=J.heap.size:=V.size;have W:Value.ownBlock (.slice ao R[k].ats.length c)=some g \/ t.heap.size<=g:=by
  rcases aN with h|⟨bT,h,bh⟩
  ·exact .inl h.symm
  cases h;exact .inr bh
 have a4:=Qa W;have bG:g<J.heap.size:=(N.lt g rfl).2;have aO:g≠nb R[k].id:=by
  rcases W with h|h
  ·exact λe=>L.out (by rw [h,e])
  omega
 have bu:g≠w.heap.size:=by
  rcases W with h|h
  ·have:=M.out g h;omega
  omega
 have C:∀ b,b<t.heap.size->Value.ownBlock (.slice ao R[k].ats.length c)≠some b->J.heap[b]?=t.heap[b]?:=λb hb K=>V.block b hb (λe=>K e.symm);have aj:=(Xk (nb R[k].id) 4 (C (nb R[k].id) (by omega) L.out)).trans ag;have aP:=(Xm (nb R[k].id) 4 (C (nb R[k].id) (by omega) L.out)).trans ah;have aQ:=(Xk w.heap.size 6 (C w.heap.size (by omega) (λe=>by have:=M.out w.heap.size e;omega))).trans ai;have aR:=(Xk w.heap.size 7 (C w.heap.size (by omega) (λe=>by have:=M.out w.heap.size e;omega))).trans aM;have aZ:=Qa N;have a5:=Qa V;have aD:=Qa C;refine ⟨.inr ⟨aP,aj,aQ⟩,?_⟩;clear N V aN W C ag ah ai aM;refine Qq 12 ?_;simp only [Xq];go_simp;refine Qq 13 ?_;simp only [Xq];go_simp;refine Qq 14 ?_;simp only [Xq];go_simp;refine ⟨by kernel_rfl,?_⟩;refine Zk (by kernel_rfl) ?_ _;generalize s:J.setCell (Xa (nb R[k].id) 4) (Xe g (R[k].ats.length+1) u)=f;have aS:f.heap.size=J.heap.size:=by rw [<- s];exact ZL _ _ _
 have bU:f.cell? (Xa (nb R[k].id) 4)=some (Xe g (R[k].ats.length+1) u):=by rw [<- s];exact World.cell?_setCell_same _ _ _ aj
 have bV:f.cell? (Xa w.heap.size 7)=some (.string a):=by rw [<- s,World.cell?_of_block (Below.heap_setCell _ _ _ _ (Ne.symm br))];exact aR
 have F:f.ownsRow 0 96 2 (Xe g (R[k].ats.length+1) u) (R[k].ats.length+1) (QM (R[k].ats.take (Qs R[k].ats nm)++[(nm,⟨#[]⟩)]++R[k].ats.drop (Qs R[k].ats nm))):=by rw [<- s];exact QT aZ.out λb e=>Below.heap_setCell _ _ _ _ (by cases e;exact aO)
 have bA:Qs R[k].ats nm<R[k].ats.length+1:=by have:=Qdn R[k].ats nm;omega
 obtain ⟨aT,pv⟩:∃ aT,f.cell? (Xa g (Qs R[k].ats nm*2+1))=some aT:=by rw [F.cellAt _ (by omega)];exact ⟨_,getElem?_eq_getElem (by have:=F.1;omega)⟩
 have bW:=F.frozenAt (Qs R[k].ats nm*2+1);have bi:Hid (∀ b,b<w.heap.size->b≠nb R[k].id->Value.ownBlock (.slice ao R[k].ats.length c)≠some b->f.heap[b]?=w.heap[b]?):=Qa λb hb E ak=>by rw [<- s,Below.heap_setCell _ _ _ _ E,aD.out b (by omega) ak];exact B.out.block b hb
 have bj:Hid (f.heap[nb R[k].id]?=some (.cells (Qb7 nb { R[k] with ats:=ZZ R[k].ats nm a } (Xe g (R[k].ats.length+1) u) aH) 148 (0,0))):=by rw [<- s];exact Qa (Qb4 (i:=4) (((aD.out (nb R[k].id) (by omega) L.out).trans (B.out.block _ a1)).trans d.out.blk) _)
 have a6:Hid (f.os=w.os/\f.tape=w.tape/\f.output=w.output):=by rw [<- s];exact Qa ⟨a5.out.os.trans B.out.os,a5.out.tape.trans B.out.tape,a5.out.output.trans B.out.output⟩
 have bk:=Qa F;have bX:=Qa aS;have bH:g<f.heap.size:=by omega
 have bl:nb R[k].id<f.heap.size:=by omega
 have bI:w.heap.size<f.heap.size:=by omega
 have bJ:t.heap.size<=f.heap.size:=by omega
 have bK:(0:Int)<=(Qs R[k].ats nm:Int):=by omega
 have bL:(Qs R[k].ats nm:Int)<(R[k].ats.length:Int)+1:=by omega
 have aU:nb R[k].id≠g:=λe=>aO e.symm;have bv:w.heap.size≠g:=λe=>bu e.symm;clear s aj aP aQ aR F aS;go_wp2_with fail
 go_region_held3 (λw'=>w'.frozen? (Xa g (Qs R[k].ats nm*2+1))=false/\w'.cell? (Xa (nb R[k].id) 4)=some (Xe g (R[k].ats.length+1) u)/\w'.cell? (Xa w.heap.size 7)=some (.string a))
   (first
     | go_keep
     | (go_split_ands
        refine ⟨?_,?_,?_⟩
        · (rw [H.frozen (by simp;omega)];assumption)
        · (rw [H.cell (by simp;omega)];assumption)
        · (rw [H.cell (by simp;omega)];assumption))
     | (go_split_ands
        refine ⟨?_,?_,?_⟩
        · (rw [World.frozen?_setCell];assumption)
        · (first|(rw [World.cell?_of_block (Below.heap_setCell _ _ _ _ aU)];assumption)|go_keep)
        · (first|(rw [World.cell?_of_block (Below.heap_setCell _ _ _ _ bv)];assumption)|go_keep)))
   ((go_at_call 94;refine (Qb bd _).mono ?_;rintro e al ⟨rfl,H⟩;have bY:=(Xh H g (Qs R[k].ats nm*2+1) (by (try simp);omega)).trans pv))
 go_wp2;go_ret;have v:Xb f al:=(Below.refl f.heap.size f).drew.trans H;have bZ:=v.size;have af:=bs.out;have bM:=M.out;have aq:∀ b,b<w.heap.size->b≠nb R[k].id->b≠g->Value.ownBlock (.slice ao R[k].ats.length c)≠some b->(al.setCell (Xa g (Qs R[k].ats nm*2+1)) (.string a)).heap[b]?=w.heap[b]?:=λb hb E ak bw => (Below.heap_setCell _ _ _ _ ak).trans ((v.block b (by omega)).trans (bi.out b hb E bw));have a7:=((Zi bk.out v).stored (Qs R[k].ats nm*2+1) (.string a)).1;rw [QqU d.out.rise ap] at a7;have b0:(ZZ R[k].ats nm a).length=R[k].ats.length+1:=by have:=a7.1;rw [QkM] at this;omega
 have ar:(l g).isSome=true->l g=some (R[k].id,1):=λo=>by
  rcases a4.out with h|h
  ·exact d.out.arole g h
  have:=a0.out.low g o;omega
 have X:∀ b,(l b).isSome=true->(if b=g then some (R[k].id,1) else l b)=l b:=λb o=>by
  by_cases e:b=g
  ·subst e;rw [if_pos rfl,ar o]
  rw [if_neg e]
 have au:∀ b r,l b=some r->r≠(R[k].id,0)->r≠(R[k].id,1)->(al.setCell (Xa g (Qs R[k].ats nm*2+1)) (.string a)).heap[b]?=w.heap[b]?:=λb r e bx E=>by
  refine aq b (a0.out.low b (by rw [e];rfl)) (λx=>bx ?_) (λx=>E ?_) (λx=>E ?_)
  ·rw [x,d.out.role] at e;exact (Option.some.inj e).symm
  ·rw [x,ar (by rw [e];rfl)] at e;exact (Option.some.inj e).symm
  rw [d.out.arole b x] at e;exact (Option.some.inj e).symm
 refine ⟨rfl,λb=>if b=g then some (R[k].id,1) else l b,⟨⟨v.os.trans a6.out.1,v.tape.trans a6.out.2.1,v.output.trans a6.out.2.2,by rw [ZL];omega,λb hb K=>?_⟩,X,λb o=>?_⟩,?_⟩
 ·by_cases e:b=g
  ·subst e;rcases a4.out with h|h
   ·exact absurd (by rw [d.out.arole b h];rfl) K
   omega
  exact aq b hb (λe=>K (by rw [e,d.out.role];rfl)) e (λe=>K (by rw [d.out.arole b e];rfl))
 ·by_cases e:b=g
  ·subst e;rcases a4.out with h|h
   ·exact .inl (by rw [d.out.arole b h];rfl)
   exact .inr (by omega)
  replace o:(if b=g then some (R[k].id,1) else l b).isSome=true:=o;rw [if_neg e] at o;exact .inl o
 refine Qi.put (n':={ R[k] with ats:=ZZ R[k].ats nm a }) (av':=Xe g (R[k].ats.length+1) u) (kv':=aH) a0.out bm Y rfl rfl X (λb o=>?_) (λb r e aV=>au b r e (λx=>aV (by rw [x])) (λx=>aV (by rw [x]))) ⟨?_,(X _ (by rw [d.out.role];rfl)).trans d.out.role,?_,?_,?_,λb e=>(X b (by rw [d.out.krole b e];rfl)).trans (d.out.krole b e),?_,QfD d.out.rise,d.out.tag,d.out.text,λx bz=>(QfK bz).elim (d.out.size x) (λe=>by rw [e];exact ⟨av,aw⟩)⟩
 ·rw [ZL];by_cases e:b=g
  ·omega
  replace o:(if b=g then some (R[k].id,1) else l b).isSome=true:=o;rw [if_neg e] at o;have:=a0.out.low b o;omega
 ·exact (Below.heap_setCell _ _ _ _ aU).trans ((v.block _ bl).trans bj.out)
 ·show World.ownsRow _ _ _ _ _ (ZZ R[k].ats nm a).length _;rw [b0];exact a7
 ·intro b e;cases e;show (if g=g then some (R[k].id,1) else l g)=_;rw [if_pos rfl]
 ·exact QT d.out.krow λb e=>au b _ (d.out.krole b e) (λx=>by have:=(Prod.mk.inj x).2;omega) (λx=>by have:=(Prod.mk.inj x).2;omega)
 show (ZZ R[k].ats nm a).length<=5;omega
end Go.Proofs.YtobgcaemnpkbmaaGreatDoor
